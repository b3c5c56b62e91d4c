// Package rules reads rules, with all that they include.
package rules

import (
	"slices"
	"strings"

	"maker/names"
)

// Command is a command as it was read, with the number of its line.
type Command struct {
	Text string
	Line int
}

// Rule is a rule that is not of `.PHONY`.
type Rule struct {
	Targets  []string
	Needs    []string // each once
	Commands []Command
}

// Book is what was read. Of patterns, and of `.PHONY`, nothing counts as a target.
type Book struct {
	Names    names.Names
	Patterns []*Rule // in the order of reading
	first    string
	byTarget map[string][]*Rule // in the order of reading
	phony    map[string]struct{}
}

const phonyTarget = ".PHONY"

func newBook() *Book {
	return &Book{Names: names.Names{}, byTarget: map[string][]*Rule{}, phony: map[string]struct{}{}}
}

// First tells the first target of the first rule; nothing, if there is none.
func (b *Book) First() string { return b.first }

// Of tells the rules of which a name is a target, in the order of reading.
func (b *Book) Of(name string) []*Rule { return b.byTarget[name] }

// IsTarget tells whether a name is a rule's target.
func (b *Book) IsTarget(name string) bool { return len(b.byTarget[name]) > 0 }

// IsPhony tells whether a name is phony.
func (b *Book) IsPhony(name string) bool {
	_, ok := b.phony[name]
	return ok
}

// add adds a rule, and tells which is open then: nil, if none is.
func (b *Book) add(targets, needs []string) *Rule {
	if slices.Equal(targets, []string{phonyTarget}) {
		b.addPhony(needs)
		return nil
	}
	rule := &Rule{Targets: targets, Needs: Once(needs)}
	if isPattern(rule) {
		b.Patterns = append(b.Patterns, rule)
	} else {
		b.addExplicit(rule)
	}
	return rule
}

func (b *Book) addPhony(needs []string) {
	for _, need := range needs {
		b.phony[need] = struct{}{}
	}
}

func (b *Book) addExplicit(rule *Rule) {
	if b.first == "" {
		b.first = rule.Targets[0]
	}
	for _, target := range rule.Targets {
		b.byTarget[target] = append(b.byTarget[target], rule)
	}
}

// hasCommands tells whether a rule with commands has one of the targets.
func (b *Book) hasCommands(targets []string) bool {
	return slices.ContainsFunc(targets, func(target string) bool {
		return slices.ContainsFunc(b.byTarget[target], func(rule *Rule) bool {
			return len(rule.Commands) > 0
		})
	})
}

func isPattern(rule *Rule) bool { return hasPlace(rule.Targets[0]) }

// hasPlace tells whether a word has a place for a stem.
func hasPlace(word string) bool { return strings.Contains(word, "%") }

// Once tells the words of some lists, each where it comes first.
func Once(lists ...[]string) []string {
	var out []string
	seen := map[string]struct{}{}
	for _, word := range slices.Concat(lists...) {
		if _, ok := seen[word]; !ok {
			seen[word] = struct{}{}
			out = append(out, word)
		}
	}
	return out
}
