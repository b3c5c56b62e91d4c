package goals

import (
	"strings"

	"maker/rules"
)

// node tells what is known of a name, and whether it can be a node.
func (w *walk) node(name string) (Node, bool) {
	explicit := w.book.Of(name)
	node := Node{
		Name:     name,
		Phony:    w.book.IsPhony(name),
		Needs:    needsOf(explicit),
		Commands: commandsOf(explicit),
	}
	if len(node.Commands) == 0 && !node.Phony {
		if pattern, stem, ok := w.pattern(name); ok {
			node.Needs = rules.Once(withStem(pattern.Needs, stem), node.Needs)
			node.Commands = pattern.Commands
			node.Stem = stem
			return node, true
		}
	}
	return node, len(explicit) > 0 || node.Phony || w.world.Has(name)
}

func needsOf(explicit []*rules.Rule) []string {
	if len(explicit) == 1 {
		return explicit[0].Needs // each is there once already
	}
	var lists [][]string
	for _, rule := range explicit {
		lists = append(lists, rule.Needs)
	}
	return rules.Once(lists...)
}

func commandsOf(explicit []*rules.Rule) []rules.Command {
	for _, rule := range explicit {
		if len(rule.Commands) > 0 {
			return rule.Commands
		}
	}
	return nil
}

// pattern tells the first pattern that fits a name, and the stem.
func (w *walk) pattern(name string) (*rules.Rule, string, bool) {
	for _, pattern := range w.book.Patterns {
		if len(pattern.Commands) == 0 {
			continue
		}
		stem, ok := stemOf(name, pattern.Targets[0])
		if ok && w.areThere(pattern.Needs, stem) {
			return pattern, stem, true
		}
	}
	return nil, "", false
}

// stemOf tells what stands in a name where a pattern's target has its place.
func stemOf(name, target string) (string, bool) {
	ahead, behind, _ := strings.Cut(target, "%")
	if len(name) <= len(ahead)+len(behind) {
		return "", false
	}
	rest, begins := strings.CutPrefix(name, ahead)
	stem, ends := strings.CutSuffix(rest, behind)
	return stem, begins && ends
}

// areThere tells whether each need, with the stem, is a file or a target.
func (w *walk) areThere(needs []string, stem string) bool {
	for _, need := range needs {
		name := fill(need, stem)
		if !w.world.Has(name) && !w.book.IsTarget(name) {
			return false
		}
	}
	return true
}

func withStem(needs []string, stem string) []string {
	var names []string
	for _, need := range needs {
		names = append(names, fill(need, stem))
	}
	return names
}

// fill puts the stem into a need's place, if it has one.
func fill(need, stem string) string { return strings.ReplaceAll(need, "%", stem) }
