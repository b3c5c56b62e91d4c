// Package compile makes plans of rules.
package compile

import (
	"strings"

	"maker/api"
	"maker/goals"
	"maker/lines"
	"maker/names"
	"maker/rules"
	"maker/world"
)

// Text makes the plan of a goal by the rules of the file path; or it tells the first error, and its line.
func Text(files []api.File, path, goal string) (string, api.Errno, int) {
	w := world.New(files, nil, 0)
	book, errno, line := rules.Read(w, path)
	if errno != api.OK {
		return "", errno, line
	}
	nodes, errno := goals.Order(book, w, goal)
	if errno != api.OK {
		return "", errno, 0
	}
	steps, errno, line := stepsOf(nodes, book.Names)
	if errno != api.OK {
		return "", errno, line
	}
	plan, ok := write(steps)
	if !ok {
		return "", api.ErrSize, 0
	}
	return plan, api.OK, 0
}

// step is a node, and its commands as they are given.
type step struct {
	node     goals.Node
	commands []string
}

// stepsOf expands the nodes' commands. It keeps no more of them than show that there are too many.
func stepsOf(nodes []goals.Node, all names.Names) ([]step, api.Errno, int) {
	var steps []step
	count := 0
	for _, node := range nodes {
		signs := signsOf(node)
		var commands []string
		for _, command := range node.Commands {
			text, errno := all.Expand(command.Text, signs)
			if errno != api.OK {
				return nil, errno, command.Line
			}
			if lines.Cut(text) == "" {
				continue
			}
			count++
			if count <= api.MaxCommands {
				commands = append(commands, text)
			}
		}
		steps = append(steps, step{node: node, commands: commands})
	}
	if count > api.MaxCommands {
		return nil, api.ErrSize, 0
	}
	return steps, api.OK, 0
}

// signsOf tells what the signs in a node's commands stand for.
func signsOf(node goals.Node) names.Signs {
	first := ""
	if len(node.Needs) > 0 {
		first = node.Needs[0]
	}
	all := strings.Join(node.Needs, " ")
	return func(sign byte) (string, bool) {
		switch sign {
		case '@':
			return node.Name, true
		case '<':
			return first, true
		case '^':
			return all, true
		case '*':
			return node.Stem, true
		}
		return "", false
	}
}
