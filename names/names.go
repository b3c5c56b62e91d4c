// Package names keeps names with their values, and expands the texts in which they stand.
package names

import (
	"strings"

	"maker/api"
	"maker/lines"
)

// Value is a name's value: a late one is expanded where it is referred to.
type Value struct {
	Text string
	Late bool
}

// Names is names, and the value of each.
type Names map[string]Value

// Signs tells what a sign behind a `$` stands for, and whether it stands for something.
type Signs func(sign byte) (string, bool)

// NoSigns is for all texts but commands: no sign stands for something there.
func NoSigns(byte) (string, bool) { return "", false }

// Expand expands a text that stands where these signs hold.
func (n Names) Expand(text string, signs Signs) (string, api.Errno) {
	return n.expansion(signs)(text)
}

// expansion makes what expands one text, and the values within it:
// they have their references and their marks in common.
func (n Names) expansion(signs Signs) func(string) (string, api.Errno) {
	references := 0
	marked := map[string]struct{}{} // late names whose values are being expanded
	var expand func(string) (string, api.Errno)
	late := func(name string) (string, api.Errno) {
		if _, ok := marked[name]; ok {
			return "", api.ErrLoop
		}
		marked[name] = struct{}{}
		defer func() { delete(marked, name) }()
		return expand(n[name].Text)
	}
	refer := func(name string) (string, api.Errno) {
		references++
		if references > api.MaxRefs {
			return "", api.ErrSize
		}
		if n[name].Late {
			return late(name)
		}
		return n[name].Text, api.OK
	}
	expand = func(text string) (string, api.Errno) {
		var out bounded
		for {
			ahead, behind, more := strings.Cut(text, "$")
			out.add(ahead)
			if !more {
				return out.told()
			}
			part, rest, errno := expandSign(behind, signs, refer)
			if errno != api.OK {
				return "", errno
			}
			out.add(part)
			text = rest
		}
	}
	return expand
}

// expandSign expands the `$` ahead of a text, with what of the text belongs to it; it tells the rest too.
func expandSign(text string, signs Signs, refer func(string) (string, api.Errno)) (string, string, api.Errno) {
	if text == "" {
		return "", "", api.ErrSyntax
	}
	sign, rest := text[0], text[1:]
	switch sign {
	case '$':
		return "$", rest, api.OK
	case '(':
		name, rest, closed := strings.Cut(rest, ")")
		if !closed || !lines.IsName(name) {
			return "", "", api.ErrSyntax
		}
		value, errno := refer(name)
		return value, rest, errno
	}
	part, ok := signs(sign)
	if !ok {
		return "", "", api.ErrSyntax
	}
	return part, rest, api.OK
}

// bounded is a text that grows. Of one that is too long no more is kept than shows it:
// signs are not counted, so there is no end to what they may bring together.
type bounded struct{ text strings.Builder }

func (b *bounded) add(part string) {
	if b.text.Len() <= api.MaxText {
		b.text.WriteString(part)
	}
}

func (b *bounded) told() (string, api.Errno) {
	if b.text.Len() > api.MaxText {
		return "", api.ErrSize
	}
	return b.text.String(), api.OK
}
