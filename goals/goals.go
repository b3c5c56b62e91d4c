// Package goals finds out what a goal wants.
package goals

import (
	"maker/api"
	"maker/rules"
	"maker/world"
)

// Node is something that a goal wants: itself, or what one of its nodes needs.
type Node struct {
	Name     string
	Phony    bool
	Needs    []string // each once
	Commands []rules.Command
	Stem     string
}

// Order tells a goal's nodes in the order in which they are over.
func Order(book *rules.Book, w *world.World, goal string) ([]Node, api.Errno) {
	if goal == "" {
		goal = book.First()
	}
	if goal == "" {
		return nil, api.ErrRule
	}
	if len(goal) > api.MaxText {
		return nil, api.ErrSize
	}
	walk := walk{book: book, world: w, states: map[string]state{}}
	walk.patterns = walk.usable(book.Patterns)
	if errno := walk.from(goal); errno != api.OK {
		return nil, errno
	}
	if len(walk.over) > api.MaxNodes {
		return nil, api.ErrSize
	}
	return walk.over, api.OK
}

type state int

const (
	isOpen state = iota + 1
	isOver
)

// visit is a node that is not over yet, and how many of its needs were looked at.
type visit struct {
	node   Node
	looked int
}

// walk goes from node to node. What is open is a list, not calls within calls:
// patterns may lead through as many nodes as there are files.
type walk struct {
	book     *rules.Book
	world    *world.World
	patterns []pattern
	states   map[string]state
	open     []visit // each a need of the one ahead of it
	over     []Node
}

func (w *walk) from(goal string) api.Errno {
	errno := w.enter(goal)
	for errno == api.OK && len(w.open) > 0 {
		errno = w.goOn()
	}
	return errno
}

// goOn goes to the next need of the last node that is open, or leaves this node.
func (w *walk) goOn() api.Errno {
	last := &w.open[len(w.open)-1]
	if last.looked == len(last.node.Needs) {
		w.leave()
		return api.OK
	}
	last.looked++
	return w.enter(last.node.Needs[last.looked-1])
}

func (w *walk) enter(name string) api.Errno {
	switch w.states[name] {
	case isOver:
		return api.OK
	case isOpen:
		return api.ErrCycle
	}
	node, ok := w.node(name)
	if !ok {
		return api.ErrRule
	}
	w.states[name] = isOpen
	w.open = append(w.open, visit{node: node})
	return api.OK
}

// leave keeps no more nodes than show that there are too many.
func (w *walk) leave() {
	end := len(w.open) - 1
	node := w.open[end].node
	w.open = w.open[:end]
	w.states[node.Name] = isOver
	if len(w.over) <= api.MaxNodes {
		w.over = append(w.over, node)
	}
}
