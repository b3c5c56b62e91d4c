package rules

import (
	"slices"
	"strings"

	"maker/api"
	"maker/lines"
	"maker/names"
	"maker/world"
)

type reader struct {
	world    *world.World
	book     *Book
	rules    int // how many were read
	included int // how many texts were
	open     int // includes that are open
}

// Read reads the rules of a file of the world; or it tells the first error, and the line where it was found.
func Read(w *world.World, path string) (*Book, api.Errno, int) {
	text, ok := w.Text(path)
	if !ok {
		return nil, api.ErrInclude, 0
	}
	r := reader{world: w, book: newBook()}
	if errno, number := r.read(text); errno != api.OK {
		return nil, errno, number
	}
	return r.book, api.OK, 0
}

func (r *reader) read(text string) (api.Errno, int) {
	var open *Rule
	for line, errno := range lines.All(text) {
		if errno != api.OK {
			return errno, line.Number
		}
		number := line.Number
		switch line.Kind {
		case lines.Command:
			errno = r.command(open, line)
		case lines.Rule:
			open, errno = r.rule(line)
		case lines.Include:
			open = nil
			errno, number = r.include(line)
		default:
			open = nil
			errno = r.assign(line)
		}
		if errno != api.OK {
			return errno, number
		}
	}
	return api.OK, 0
}

func (r *reader) expand(text string) (string, api.Errno) {
	return r.book.Names.Expand(text, names.NoSigns)
}

func (r *reader) assign(line lines.Line) api.Errno {
	value := names.Value{Text: line.Right, Late: line.Kind == lines.Late}
	errno := api.OK
	if !value.Late {
		value.Text, errno = r.expand(line.Right)
	}
	r.book.Names[line.Left] = value
	return errno
}

func (r *reader) include(line lines.Line) (api.Errno, int) {
	text, errno := r.expand(line.Right)
	if errno != api.OK {
		return errno, line.Number
	}
	for _, name := range lines.Words(text) {
		if errno, number := r.includeFile(name, line.Number); errno != api.OK {
			return errno, number
		}
	}
	return api.OK, 0
}

// includeFile reads a file that is included in the line of that number.
func (r *reader) includeFile(name string, number int) (api.Errno, int) {
	text, ok := r.world.Text(name)
	if !ok {
		return api.ErrInclude, number
	}
	if r.open == api.MaxDeep {
		return api.ErrDeep, number
	}
	if r.included == api.MaxIncludes {
		return api.ErrSize, number
	}
	r.included++
	r.open++
	defer func() { r.open-- }()
	return r.read(text)
}

// rule reads a rule, and tells which one is open then.
func (r *reader) rule(line lines.Line) (*Rule, api.Errno) {
	left, errno := r.expand(line.Left)
	if errno != api.OK {
		return nil, errno
	}
	right, errno := r.expand(line.Right)
	if errno != api.OK {
		return nil, errno
	}
	targets, needs := lines.Words(left), lines.Words(right)
	if !mayBeSides(targets, needs) {
		return nil, api.ErrSyntax
	}
	if r.rules == api.MaxRules {
		return nil, api.ErrSize
	}
	r.rules++
	return r.book.add(targets, needs), api.OK
}

// mayBeSides tells whether words may be a rule's targets and needs.
func mayBeSides(targets, needs []string) bool {
	if len(targets) == 0 || slices.ContainsFunc(targets, hasPlaces) || slices.ContainsFunc(needs, hasPlaces) {
		return false
	}
	if slices.ContainsFunc(targets, hasPlace) {
		return len(targets) == 1
	}
	return !slices.ContainsFunc(needs, hasPlace)
}

func hasPlaces(word string) bool { return strings.Count(word, "%") > 1 }

func (r *reader) command(open *Rule, line lines.Line) api.Errno {
	if open == nil {
		return api.ErrSyntax
	}
	if len(open.Commands) == 0 && r.book.hasCommands(open.Targets) {
		return api.ErrTwice
	}
	open.Commands = append(open.Commands, Command{Text: line.Right, Line: line.Number})
	return api.OK
}
