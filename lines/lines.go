// Package lines cuts a text of rules into its lines and tells what each of them is.
package lines

import (
	"iter"
	"strings"

	"maker/api"
)

// Kind is what a line is.
type Kind int

const (
	Nothing Kind = iota // a line that counts for nothing
	Command
	Include
	Fixed
	Late
	Rule
)

// Line is a line of a text of rules.
type Line struct {
	Number int
	Kind   Kind
	Left   string // an assignment's name, a rule's left side
	Right  string // the command, the include's text, what is behind in an assignment or a rule
}

const includeWord = "include"

// All goes over the lines of a text that count for something.
// It ends with the first one that is no line: only its number is told beside the error.
func All(text string) iter.Seq2[Line, api.Errno] {
	return func(yield func(Line, api.Errno) bool) {
		for number, whole := range joined(text) {
			line, errno := parse(whole)
			if errno == api.OK && line.Kind == Nothing {
				continue
			}
			line.Number = number
			if !yield(line, errno) || errno != api.OK {
				return
			}
		}
	}
}

func parse(whole string) (Line, api.Errno) {
	if strings.HasPrefix(whole, "\t") {
		return parseCommand(whole), api.OK
	}
	ahead, _, _ := strings.Cut(whole, "#")
	text := Cut(ahead)
	if text == "" {
		return Line{}, api.OK
	}
	if behind, ok := afterInclude(text); ok {
		return parseInclude(behind)
	}
	return parseSides(text)
}

func parseCommand(whole string) Line {
	command := cutFront(whole)
	if command == "" {
		return Line{}
	}
	return Line{Kind: Command, Right: command}
}

// afterInclude tells what is behind the word include, and whether the text begins with that word:
// `included` and `include:` do not.
func afterInclude(text string) (string, bool) {
	behind, ok := strings.CutPrefix(text, includeWord)
	if !ok || behind != "" && !isBlank(rune(behind[0])) {
		return "", false
	}
	return Cut(behind), true
}

func parseInclude(behind string) (Line, api.Errno) {
	if behind == "" {
		return Line{}, api.ErrSyntax
	}
	return Line{Kind: Include, Right: behind}, api.OK
}

func parseSides(text string) (Line, api.Errno) {
	at := strings.IndexAny(text, "=:")
	if at < 0 {
		return Line{}, api.ErrSyntax
	}
	kind, behind := kindOfSign(text[at:])
	line := Line{Kind: kind, Left: Cut(text[:at]), Right: Cut(behind)}
	if !mayStandAhead(line) {
		return Line{}, api.ErrSyntax
	}
	return line, api.OK
}

// kindOfSign looks at the sign with which the text begins, and tells what is behind it too.
func kindOfSign(text string) (Kind, string) {
	if behind, ok := strings.CutPrefix(text, ":="); ok {
		return Fixed, behind
	}
	if behind, ok := strings.CutPrefix(text, "="); ok {
		return Late, behind
	}
	return Rule, text[1:]
}

func mayStandAhead(line Line) bool {
	if line.Left == includeWord {
		return false
	}
	if line.Kind == Rule {
		return line.Left != ""
	}
	return IsName(line.Left)
}
