// Package run runs plans on worlds.
package run

import (
	"maker/api"
	"maker/plans"
	"maker/world"
)

// Text runs the plan that a text is: ErrPlan, if it is not sound.
func Text(text string, w *world.World) (api.Result, api.Errno) {
	plan, errno := plans.Read(text)
	if errno != api.OK {
		return api.Result{}, errno
	}
	m := machine{world: w, strings: plan.Strings}
	m.run(plan.Code)
	return api.Result{Commands: m.given, Files: w.Files(), Exit: m.exit, Clock: w.Clock()}, api.OK
}

type machine struct {
	world   *world.World
	strings []string
	stack   []bool
	flags   [256]bool
	goOnAt  int // instructions ahead of this place are left out
	given   []string
	exit    int
}

// run does not ask whether the strings that are named, and what is taken off the stack, are there: in a sound plan they are.
func (m *machine) run(code string) {
	for instruction := range plans.Instructions(code) {
		if instruction.At < m.goOnAt {
			continue
		}
		m.do(instruction)
		if m.exit != 0 {
			return
		}
	}
}

func (m *machine) do(instruction plans.Instruction) {
	switch instruction.Op {
	case plans.Push:
		m.push(instruction.First == 1)
	case plans.Absent:
		m.push(!m.world.Has(m.strings[instruction.First]))
	case plans.Newer:
		m.push(m.world.Newer(m.strings[instruction.First], m.strings[instruction.Second]))
	case plans.Flag:
		m.push(m.flags[instruction.First])
	case plans.Or:
		one, other := m.pop(), m.pop()
		m.push(one || other)
	case plans.Skip:
		if !m.pop() {
			m.goOnAt = instruction.Next + instruction.First
		}
	case plans.Give:
		m.give(m.strings[instruction.First])
	case plans.Set:
		m.flags[instruction.First] = true
	}
}

func (m *machine) push(v bool) { m.stack = append(m.stack, v) }

func (m *machine) pop() bool {
	top := len(m.stack) - 1
	v := m.stack[top]
	m.stack = m.stack[:top]
	return v
}

func (m *machine) give(command string) {
	m.given = append(m.given, command)
	m.exit = m.world.Give(command)
}
