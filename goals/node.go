package goals

import "maker/rules"

// node tells what is known of a name, and whether it can be a node.
func (w *walk) node(name string) (Node, bool) {
	explicit := w.book.Of(name)
	node := Node{
		Name:     name,
		Phony:    w.book.IsPhony(name),
		Needs:    needsOf(explicit),
		Commands: commandsOf(explicit),
	}
	if len(node.Commands) == 0 && !node.Phony {
		if rule, stem, ok := w.fitting(name); ok {
			node.Needs = rules.Once(withStem(rule.Needs, stem), node.Needs)
			node.Commands = rule.Commands
			node.Stem = stem
			return node, true
		}
	}
	return node, len(explicit) > 0 || node.Phony || w.world.Has(name)
}

func needsOf(explicit []*rules.Rule) []string {
	if len(explicit) == 1 {
		return explicit[0].Needs // each is there once already
	}
	var lists [][]string
	for _, rule := range explicit {
		lists = append(lists, rule.Needs)
	}
	return rules.Once(lists...)
}

func commandsOf(explicit []*rules.Rule) []rules.Command {
	for _, rule := range explicit {
		if len(rule.Commands) > 0 {
			return rule.Commands
		}
	}
	return nil
}
