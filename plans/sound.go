package plans

import "maker/api"

// walk is a way over a plan's code from its beginning to its end, on which no skip is taken.
// Skips lead forwards only, so this one way comes by all places to which the others lead.
type walk struct {
	strings int
	height  int
	awaited map[int]int // places ahead to which skips lead, and how high the stack is there
}

func sound(plan Plan) bool {
	w := walk{strings: len(plan.Strings), awaited: map[int]int{}}
	for instruction, ok := range Instructions(plan.Code) {
		if !ok || !w.arrive(instruction.At) || !w.mayName(instruction) || !w.step(instruction) {
			return false
		}
	}
	// A place that is still awaited is in the midst of an instruction, or beyond the end.
	return w.arrive(len(plan.Code)) && w.height == 0 && len(w.awaited) == 0
}

// arrive tells whether the stack is as high here as the skips to this place leave it.
func (w *walk) arrive(at int) bool {
	height, ok := w.awaited[at]
	delete(w.awaited, at)
	return !ok || height == w.height
}

// mayName tells whether the operands name something that there is.
func (w *walk) mayName(instruction Instruction) bool {
	switch instruction.Op {
	case Push:
		return instruction.First <= 1
	case Absent, Give:
		return instruction.First < w.strings
	case Newer:
		return instruction.First < w.strings && instruction.Second < w.strings
	}
	return true
}

// step does to the height what the instruction does to the stack, and tells whether it may.
func (w *walk) step(instruction Instruction) bool {
	taken, pushed := uses(instruction.Op)
	if w.height < taken {
		return false
	}
	w.height += pushed - taken
	if w.height > api.MaxStack {
		return false
	}
	return instruction.Op != Skip || w.await(instruction.Next+instruction.First)
}

// uses tells how many an instruction takes off the stack, and then pushes.
func uses(op Op) (int, int) {
	switch op {
	case Push, Absent, Newer, Flag:
		return 0, 1
	case Or:
		return 2, 1
	case Skip:
		return 1, 0
	}
	return 0, 0
}

// await keeps how high the stack is where a skip leads to, and tells whether all skips to that place agree.
func (w *walk) await(place int) bool {
	height, ok := w.awaited[place]
	w.awaited[place] = w.height
	return !ok || height == w.height
}
