// Package maker: from rules to a plan, and from a plan to what is done: see DOC.md.
package maker

import (
	"maker/api"
	"maker/compile"
	"maker/plain"
	"maker/plans"
	"maker/run"
	"maker/world"
)

// Plain tells the plain form of a text of rules (P2).
func Plain(text string) (string, api.Errno, int) { return plain.Text(text) }

// Check tells whether a plan is sound (P3).
func Check(plan string) api.Errno {
	_, errno := plans.Read(plan)
	return errno
}

// Run runs a plan (P4).
func Run(plan string, files []api.File, effects []api.Effect, clock int) (api.Result, api.Errno) {
	return run.Text(plan, world.New(files, effects, clock))
}

// Compile makes a plan of rules (P5).
func Compile(files []api.File, path string, goal string) (string, api.Errno, int) {
	return compile.Text(files, path, goal)
}

// Make does what rules tell (P6).
func Make(files []api.File, path string, goal string, effects []api.Effect, clock int) (api.Result, api.Errno, int) {
	plan, errno, line := Compile(files, path, goal)
	if errno != api.OK {
		return api.Result{}, errno, line
	}
	result, errno := Run(plan, files, effects, clock)
	return result, errno, 0
}
