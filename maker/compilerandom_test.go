package maker_test

import (
	"math/rand"
	"slices"
	"strconv"
	"strings"
	"testing"

	"maker/api"
	"maker/maker"
)

// compareCompile holds Compile against the model, and its plan, in some worlds, against what is done; it tells the error.
func compareCompile(t *testing.T, r *rand.Rand, files []api.File, path, goal string) api.Errno {
	t.Helper()
	plan, errno, line := maker.Compile(files, path, goal)
	nodes, wantErrno, wantLine := modelCompile(files, path, goal)
	if errno != wantErrno || line != wantLine {
		t.Fatalf("P5: Compile(%+v, %q, %q): %d, line %d, want %d, line %d", files, path, goal, errno, line, wantErrno, wantLine)
	}
	if again, errno2, line2 := maker.Compile(files, path, goal); again != plan || errno2 != errno || line2 != line {
		t.Fatalf("P1: Compile(%+v, %q, %q) answers first one thing, then another", files, path, goal)
	}
	if errno != api.OK {
		if plan != "" {
			t.Fatalf("P1: Compile(%+v, %q, %q): a plan beside the error %d", files, path, goal, errno)
		}
		return errno
	}
	if !modelSound(plan) || maker.Check(plan) != api.OK {
		t.Fatalf("P5: Compile(%+v, %q, %q): the plan %x is not sound", files, path, goal, plan)
	}
	compareDone(t, plan, nodes, files, nil, 10)
	for range 4 {
		names, commands := namesOf(nodes)
		other := files
		if r.Intn(2) == 0 {
			other = randomFiles(r, names)
		}
		compareDone(t, plan, nodes, other, randomDeeds(r, names, commands), r.Intn(4)-1)
	}
	return errno
}

// compareDone holds a run of a plan against what is done with the nodes of which it was made.
func compareDone(t *testing.T, plan string, nodes []*modelNode, files []api.File, effects []api.Effect, clock int) {
	t.Helper()
	got, errno := maker.Run(plan, files, effects, clock)
	want := modelDo(nodes, files, effects, clock)
	if errno != api.OK || !sameResult(got, want) {
		t.Fatalf("P5: Run of the plan for %+v with %v, %v, %d: %+v, %d, want %+v", nodes, files, effects, clock, got, errno, want)
	}
}

func namesOf(nodes []*modelNode) (names, commands []string) {
	for _, node := range nodes {
		names = append(names, node.name)
		commands = append(commands, node.commands...)
	}
	return names, append(commands, "no command")
}

// randomDeeds: effects of the commands, most of which write files of these names.
func randomDeeds(r *rand.Rand, names, commands []string) []api.Effect {
	var effects []api.Effect
	for range r.Intn(6) {
		e := api.Effect{Command: commands[r.Intn(len(commands))], Writes: randomFiles(r, names)}
		if r.Intn(5) == 0 {
			e.Exit = r.Intn(5) - 2
		}
		effects = append(effects, e)
	}
	return effects
}

// random rules: words of few letters, so that they meet.
type randomRules struct {
	*rand.Rand
	wrong int // one piece of so many is a wrong one
}

func (r randomRules) of(l ...string) string { return l[r.Intn(len(l))] }

func (r randomRules) isWrong() bool { return r.Intn(r.wrong) == 0 }

func (r randomRules) name() string { return r.of("A", "B", "C", "_9", "P") }

func (r randomRules) blank() string { return r.of("", "", " ", "\t", "  ", " \t ", " \\\n ") }

func (r randomRules) space() string { return r.of(" ", " ", " ", "\t", " \\\n\t", " \t ") }

// piece: something that expands to something, most times.
func (r randomRules) piece(command bool) string {
	if r.isWrong() {
		return r.of("$", "$x", "$(", "$(A", "$()", "$( A)", "$(A )", "$(A-)", "$)", "$(abcdefghijklmnopq)", "$@", "$<", "$^", "$*", "%", "%%", "$(A$(B))", "\xff", "\x00", "$\xff")
	}
	if command && r.Intn(3) == 0 {
		return r.of("$@", "$<", "$^", "$*", "$@$@")
	}
	return r.of("a", "b", "c", "a.o", "b.o", "a.c", "b.c", "x", "$$", "$("+r.name()+")", "$("+r.name()+")")
}

func (r randomRules) word(most int, command bool) string {
	var b strings.Builder
	for range 1 + r.Intn(most) {
		b.WriteString(r.piece(command))
	}
	return b.String()
}

func (r randomRules) words(most int, one func() string) string {
	var l []string
	for range r.Intn(most + 1) {
		l = append(l, one())
	}
	return strings.Join(l, r.space())
}

func (r randomRules) target() string {
	if r.isWrong() {
		return r.of("$(E)", "%%", "% a", "a %.o", ".PHONY a", ".PHONY .PHONY", "$(A)$(B)", "$(P)", "")
	}
	return r.of("a", "b", "c", "a b", "a.o", "b.o", "a.c", "a.o b.o", "$(A)", "x", "%.o", "%.c", "%", "a%", "%.o", ".PHONY")
}

func (r randomRules) need() string {
	return r.of("a.c", "b.c", "a.o", "b.o", "b", "c", "x", "y", "$(A)", "$(B)", "$(E)")
}

func (r randomRules) rule() string {
	target := r.target()
	need := r.need
	if strings.Contains(target, "%") {
		need = func() string { return r.of("%.c", "%.x", "%", "a%", "x", "y", "$(A)", "a.c", "b.c") }
	}
	if r.isWrong() {
		need = func() string { return r.of("%", "a%b%", "$(P)", "$x", "x") }
	}
	out := target + r.blank() + ":" + r.blank() + r.words(3, need) + "\n"
	for range r.Intn(4) {
		out += "\t" + r.words(3, func() string { return r.word(2, true) }) + "\n"
	}
	return out
}

func (r randomRules) line() string {
	if r.isWrong() {
		return r.of("what\n", "\tgo\n", "include\n", "= a\n", ": a\n", "include: a\n", "a-b = c\n", "include none\n", "include self\n", "include $(A)\n")
	}
	switch r.Intn(12) {
	case 0:
		return r.of("\n", "# no\n", "\t\n", "  # $x\n", "\t \t\n", " \\\n\n")
	case 1, 2:
		return r.name() + r.blank() + "=" + r.blank() + r.words(2, func() string { return r.word(2, r.Intn(3) == 0) }) + r.of("", " # no") + "\n"
	case 3, 4:
		return r.name() + r.blank() + ":=" + r.blank() + r.words(2, func() string { return r.word(2, false) }) + "\n"
	case 5:
		return "P" + r.of(" = ", ":=") + r.of(".PHONY", "%.o", "%", "a.o", "") + "\n"
	case 6:
		return "include" + r.space() + r.of("I", "J", "K", "$(E)", "I J", "I", "J", "K", "$(E)K$(E)") + "\n"
	}
	return r.rule()
}

func (r randomRules) text(most int) string {
	var b strings.Builder
	for range r.Intn(most + 1) {
		b.WriteString(r.line())
	}
	if r.Intn(8) == 0 {
		return strings.TrimRight(b.String(), "\n") + r.of("", "\\", "\\\\")
	}
	return b.String()
}

func (r randomRules) files() []api.File {
	var files []api.File
	for _, name := range []string{"a", "b", "a.c", "b.c", "a.o", "x", "y", "a.x", "aa", "c"} {
		if r.Intn(2) == 0 {
			files = append(files, api.File{Path: name, Time: r.Intn(5)})
		}
	}
	files = append(files, api.File{Path: "R", Text: r.text(10)}, api.File{Path: "I", Text: r.text(3)}, api.File{Path: "J", Text: r.text(2)}, api.File{Path: "K", Text: r.text(1)}, api.File{Path: "self", Text: "include self"})
	r.Shuffle(len(files), func(i, j int) { files[i], files[j] = files[j], files[i] })
	return append(files, api.File{Path: "R", Text: "not this one"}, api.File{Path: "x", Time: 9})
}

func TestCompileRandomRules(t *testing.T) {
	seen := map[api.Errno]int{}
	for i := range 60000 {
		r := randomRules{rand.New(rand.NewSource(int64(i))), []int{10, 60, 100000}[i%3]}
		files := r.files()
		goal := r.of("", "", "", "a", "b", "a.o", "b.o", "x", "aa", "a%", ".PHONY", "$$")
		seen[compareCompile(t, r.Rand, files, "R", goal)]++
	}
	for _, errno := range []api.Errno{api.OK, api.ErrSyntax, api.ErrInclude, api.ErrDeep, api.ErrLoop, api.ErrTwice, api.ErrCycle, api.ErrRule} {
		if seen[errno] < 100 {
			t.Errorf("the random rules show the error %d only %d times: %v", errno, seen[errno], seen)
		}
	}
}

// graph: rules without an error, for nodes that need some of those ahead of them; and the last of these as the goal.
func (r randomRules) graph() ([]api.File, string) {
	var rules strings.Builder
	files := []api.File{}
	count := 2 + r.Intn(8)
	name := ""
	for i := range count {
		needs := " " + name
		for range r.Intn(4) {
			if i > 0 {
				needs += " n" + strconv.Itoa(r.Intn(i))
			}
		}
		name = "n" + strconv.Itoa(i)
		switch r.Intn(6) {
		case 0:
			rules.WriteString(name + ": " + name + "z\n" + name + "%:" + needs + "\n\tby pattern $@ $* $^\n")
		case 1:
			rules.WriteString(".PHONY: " + name + "\n" + name + ":" + needs + "\n\tphony $@ $<\n")
		case 2:
			rules.WriteString(name + ":" + needs + "\n")
		case 3:
			rules.WriteString(name + ":\n\tone $@\n\ttwo $^\n" + name + ":" + needs + "\n")
		default:
			rules.WriteString(name + ":" + needs + "\n\tmake $@\n")
		}
		if r.Intn(3) > 0 {
			files = append(files, api.File{Path: name, Time: r.Intn(4)})
		}
	}
	return append(files, api.File{Path: "R", Text: rules.String()}), name
}

// deeds: effects of commands that write the files of their nodes, but for some.
func (r randomRules) deeds(nodes []*modelNode) []api.Effect {
	var effects []api.Effect
	for _, node := range nodes {
		for _, command := range node.commands {
			e := api.Effect{Command: command}
			if r.Intn(5) > 0 {
				e.Writes = []api.File{{Path: node.name, Text: command}}
			}
			if r.Intn(5) == 0 {
				e.Writes = append(e.Writes, api.File{Path: nodes[r.Intn(len(nodes))].name})
			}
			if r.Intn(20) == 0 {
				e.Exit = 1 + r.Intn(3)
			}
			effects = append(effects, e)
		}
	}
	return effects
}

func TestCompileRandomGraphs(t *testing.T) {
	given := 0
	for i := range 8000 {
		r := randomRules{rand.New(rand.NewSource(int64(i))), 100000}
		files, goal := r.graph()
		if errno := compareCompile(t, r.Rand, files, "R", goal); errno != api.OK {
			t.Fatalf("%+v: %d", files, errno)
		}
		plan, _, _ := maker.Compile(files, "R", goal)
		nodes, _, _ := modelCompile(files, "R", goal)
		for range 4 {
			compareDone(t, plan, nodes, files, r.deeds(nodes), r.Intn(5))
			r.Shuffle(len(files), func(i, j int) { files[i].Time, files[j].Time = files[j].Time, files[i].Time })
		}
		if result, _ := maker.Run(plan, files, nil, 0); len(result.Commands) > 2 {
			given++
		}
	}
	if given < 3000 {
		t.Errorf("only %d of the graphs give more than 2 commands", given)
	}
}

// Rules that come near the limits: long values, many references, rules, includes, nodes and commands.
func (r randomRules) large() []api.File {
	near := func(n int) int { return n - 3 + r.Intn(6) }
	var b strings.Builder
	b.WriteString("L := " + strings.Repeat("l", near(r.Intn(3)*1000+3)) + "\n")
	b.WriteString("M = " + strings.Repeat(r.of("$(E)", "$(L)", "m"), r.Intn(20)) + "\n")
	b.WriteString("N = $(M)" + strings.Repeat("$(M)", r.Intn(3)) + r.of("", "$x", "$(N)") + "\n")
	for range r.Intn(3) {
		b.WriteString(r.of("A", "B") + r.of(" = ", " := ") + strings.Repeat(r.of("$(L)", "$(M)", "$(N)", "$(E)", "x", "$$"), r.of2(3, near(300), near(2000))) + r.of("", "", "$x") + "\n")
	}
	b.WriteString("include " + r.of("$(E)", "I", strings.Repeat("I ", near(100)), strings.Repeat("I ", near(33))) + "\n")
	b.WriteString(strings.Repeat(r.of("z:\n", ".PHONY: z\n", "%.z:\n", "z: $(M)\n"), r.of2(1, near(60))) + "\n")
	b.WriteString("all:" + words("n", r.of2(2, near(50), near(100))) + "\n.PHONY:" + words("n", 104) + "\n")
	b.WriteString("n1 n2 n3:" + words("k", r.of2(2, near(50))) + "\n")
	b.WriteString(strings.Repeat(r.of("\tgo $@ $(L)\n", "\tgo\n", "\t$(E)\n", "\t$^\n", "\t$(A)\n"), r.of2(2, near(166), near(500))) + ".PHONY:" + words("k", 60) + "\n")
	return []api.File{{Path: "R", Text: b.String()}, {Path: "I", Text: r.of("", "include J\n", "include J J\n", "i = 1\n\n$(L)i:\n")}, {Path: "J", Text: r.of("", "\n", "\ninclude J\n", "j:\n")}}
}

func (r randomRules) of2(l ...int) int { return l[r.Intn(len(l))] }

func words(name string, n int) string {
	var b strings.Builder
	for i := range n {
		b.WriteString(" " + name + strconv.Itoa(i))
	}
	return b.String()
}

func TestCompileRandomLargeRules(t *testing.T) {
	seen := map[api.Errno]int{}
	for i := range 2000 {
		r := randomRules{rand.New(rand.NewSource(int64(i))), 100000}
		seen[compareCompile(t, r.Rand, r.large(), "R", r.of("all", "", "n1"))]++
	}
	if seen[api.OK] < 100 || seen[api.ErrSize] < 100 {
		t.Errorf("%v", seen)
	}
}

func TestCompileAllSmallRules(t *testing.T) {
	pieces := []string{"a:\n", "a: b\n", "b: a\n", "\t$@ $^\n", "\t$(A)\n", "%: b\n", "a%: %\n", "A = $(A)\n", "A := $(A)x\n", ".PHONY: a\n", "include I\n", "ab:\n"}
	worlds := [][]api.File{nil, {{Path: "b", Time: 2}, {Path: "a", Time: 1}}, {{Path: "b"}, {Path: "ab"}}}
	r := rand.New(rand.NewSource(1))
	var all func(text string, most int)
	all = func(text string, most int) {
		for _, files := range worlds {
			for _, goal := range []string{"", "ab"} {
				compareCompile(t, r, append(slices.Clip(files), api.File{Path: "R", Text: text}, api.File{Path: "I", Text: "a b:\n\tI\n"}), "R", goal)
			}
		}
		for _, piece := range pieces {
			if most > 0 {
				all(text+piece, most-1)
			}
		}
	}
	all("", 4)
}
