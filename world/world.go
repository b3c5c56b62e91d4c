// Package world keeps a world of files, and does what commands do to it.
package world

import (
	"maps"
	"slices"

	"maker/api"
)

// World is files, a clock, and what commands do.
type World struct {
	files   map[string]api.File
	effects []api.Effect
	first   map[string]int // by a command: which of the effects is the first of it
	clock   int
}

// New makes a world of its own: what becomes of it is not seen in the lists.
func New(files []api.File, effects []api.Effect, clock int) *World {
	return &World{
		files:   firstFiles(files),
		effects: effects,
		first:   firstEffects(effects),
		clock:   clock,
	}
}

func firstFiles(list []api.File) map[string]api.File {
	files := map[string]api.File{}
	for _, file := range list {
		if _, ok := files[file.Path]; !ok {
			files[file.Path] = file
		}
	}
	return files
}

func firstEffects(list []api.Effect) map[string]int {
	first := map[string]int{}
	for i, effect := range list {
		if _, ok := first[effect.Command]; !ok {
			first[effect.Command] = i
		}
	}
	return first
}

// Has tells whether there is a file of that name.
func (w *World) Has(name string) bool {
	_, ok := w.files[name]
	return ok
}

// Text tells the text of the file of that name, and whether there is one.
func (w *World) Text(name string) (string, bool) {
	file, ok := w.files[name]
	return file.Text, ok
}

// Newer tells whether there are both files, and the other one is newer than the one.
func (w *World) Newer(one, other string) bool {
	a, there := w.files[one]
	b, alsoThere := w.files[other]
	return there && alsoThere && b.Time > a.Time
}

// Give gives a command, and tells its exit.
func (w *World) Give(command string) int {
	w.clock++
	i, ok := w.first[command]
	if !ok {
		return 0
	}
	for _, file := range w.effects[i].Writes {
		file.Time = w.clock
		w.files[file.Path] = file
	}
	return w.effects[i].Exit
}

// Files tells the files by rising names.
func (w *World) Files() []api.File {
	list := make([]api.File, 0, len(w.files))
	for _, name := range slices.Sorted(maps.Keys(w.files)) {
		list = append(list, w.files[name])
	}
	return list
}

// Clock tells the clock.
func (w *World) Clock() int { return w.clock }
