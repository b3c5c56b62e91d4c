// Package plans reads plans and tells which of them are sound.
package plans

import (
	"strings"

	"maker/api"
)

const mark = "P1"

// Plan is a sound plan.
type Plan struct {
	Strings []string
	Code    string
}

// Read reads a plan: ErrPlan, if it is not sound.
func Read(text string) (Plan, api.Errno) {
	plan, ok := split(text)
	if !ok || !sound(plan) {
		return Plan{}, api.ErrPlan
	}
	return plan, api.OK
}

// split takes a plan's strings and its code apart, and tells whether the plan has this form.
func split(text string) (Plan, bool) {
	rest, ok := strings.CutPrefix(text, mark)
	if !ok {
		return Plan{}, false
	}
	count, rest, ok := takeNumber(rest)
	if !ok || count > api.MaxStrings {
		return Plan{}, false
	}
	list := make([]string, count)
	for i := range list {
		list[i], rest, ok = takeString(rest)
		if !ok {
			return Plan{}, false
		}
	}
	return Plan{Strings: list, Code: rest}, true
}

// takeNumber takes a number of two bytes off a text; it tells the text behind, and whether there was one.
func takeNumber(text string) (int, string, bool) {
	if len(text) < 2 {
		return 0, "", false
	}
	return number(text[:2]), text[2:], true
}

// takeString takes a string, with its length ahead of it, off a text, as takeNumber does a number.
func takeString(text string) (string, string, bool) {
	size, rest, ok := takeNumber(text)
	if !ok || len(rest) < size {
		return "", "", false
	}
	return rest[:size], rest[size:], true
}
