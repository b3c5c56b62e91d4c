package compile

import (
	"maker/goals"
	"maker/plans"
)

// write writes the plan of the steps, and tells whether a plan can hold them.
// Each node has its number in the order for its flag, which is on if the node was stale.
func write(steps []step) (string, bool) {
	w := plans.NewWriter()
	flags := map[string]int{}
	for i, step := range steps {
		flags[step.node.Name] = i
		writeStale(w, step.node, flags)
		w.AddSkip(func() {
			for _, command := range step.commands {
				w.Add(plans.Give, w.String(command))
			}
			w.Add(plans.Set, i)
		})
	}
	return w.Text()
}

// writeStale writes what pushes whether a node is stale. All its needs have their flags: they were over ahead of it.
func writeStale(w *plans.Writer, node goals.Node, flags map[string]int) {
	if node.Phony {
		w.Add(plans.Push, 1)
		return
	}
	name := w.String(node.Name)
	w.Add(plans.Absent, name)
	for _, need := range node.Needs {
		w.Add(plans.Flag, flags[need])
		w.Add(plans.Or)
		w.Add(plans.Newer, name, w.String(need))
		w.Add(plans.Or)
	}
}
