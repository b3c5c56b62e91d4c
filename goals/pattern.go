package goals

import (
	"strings"

	"maker/rules"
)

// pattern is a pattern with commands, all of whose other needs are there.
type pattern struct {
	rule   *rules.Rule
	byStem []string // those of its needs that hang on the stem
}

// usable tells the patterns that may fit a node. A need without a place for the stem
// is there for all nodes or for none, so it is asked for once.
func (w *walk) usable(list []*rules.Rule) []pattern {
	var patterns []pattern
	for _, rule := range list {
		var byStem, others []string
		for _, need := range rule.Needs {
			if strings.Contains(need, "%") {
				byStem = append(byStem, need)
			} else {
				others = append(others, need)
			}
		}
		if len(rule.Commands) > 0 && w.areThere(others, "") {
			patterns = append(patterns, pattern{rule: rule, byStem: byStem})
		}
	}
	return patterns
}

// fitting tells the first pattern that fits a name, and the stem.
func (w *walk) fitting(name string) (*rules.Rule, string, bool) {
	for _, pattern := range w.patterns {
		stem, ok := stemOf(name, pattern.rule.Targets[0])
		if ok && w.areThere(pattern.byStem, stem) {
			return pattern.rule, stem, true
		}
	}
	return nil, "", false
}

// areThere tells whether each need, with the stem, is a file or a target.
func (w *walk) areThere(needs []string, stem string) bool {
	for _, need := range needs {
		name := fill(need, stem)
		if !w.world.Has(name) && !w.book.IsTarget(name) {
			return false
		}
	}
	return true
}

// stemOf tells what stands in a name where a pattern's target has its place.
func stemOf(name, target string) (string, bool) {
	ahead, behind, _ := strings.Cut(target, "%")
	if len(name) <= len(ahead)+len(behind) {
		return "", false
	}
	rest, begins := strings.CutPrefix(name, ahead)
	stem, ends := strings.CutSuffix(rest, behind)
	return stem, begins && ends
}

func withStem(needs []string, stem string) []string {
	var names []string
	for _, need := range needs {
		names = append(names, fill(need, stem))
	}
	return names
}

// fill puts the stem into a need's place, if it has one.
func fill(need, stem string) string { return strings.ReplaceAll(need, "%", stem) }
