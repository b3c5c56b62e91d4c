package maker_test

import (
	"math"
	"math/rand"
	"slices"
	"strconv"
	"strings"
	"testing"

	"maker/api"
	"maker/maker"
)

// own: an effect by which a command writes the file of its node, and nothing else.
func own(command, path string) api.Effect {
	return api.Effect{Command: command, Writes: []api.File{{Path: path, Text: "by " + command}}}
}

func TestMakeGivesEachNodesCommandsOnce(t *testing.T) {
	for _, c := range []struct {
		why, rules, goal string
		there            []string
		want             []string
	}{
		{"needed by two", "a: b c\n\ta\nb: d\n\tb\nc: d\n\tc\nd:\n\td\n", "", nil, []string{"d", "b", "c", "a"}},
		{"needed twice by one", "a: b b\n\ta\na: b\nb:\n\tb\n", "", nil, []string{"b", "a"}},
		{"needed by all", "a: b c d\n\ta\nb: c d\n\tb\nc: d\n\tc\nd:\n\td\n", "", nil, []string{"d", "c", "b", "a"}},
		{"needed not directly alone", "a: c b\n\ta\nb: d\n\tb\nc:\n\tc\nd: c\n", "", nil, []string{"c", "b", "a"}},
		{"through a node without commands", "a: b\n\ta\nb: c\nc:\n\tc\n", "", nil, []string{"c", "a"}},
		{"two targets of one rule", "a: b c\n\ta\nb c: d\n\tmk $@ $<\nd:\n\td\n", "", nil, []string{"d", "mk b d", "mk c d", "a"}},
		{"a command twice in one rule is two", "a: b\n\tgo\n\tgo\nb:\n\tb\n", "", nil, []string{"b", "go", "go"}},
		{"phony, needed by two", ".PHONY: p\na: b c\n\ta\nb: p\n\tb\nc: p\n\tc\np:\n\tp\n", "", []string{"a 9", "b 9", "c 9", "p 1"}, []string{"p", "b", "c", "a"}},
		{"by a pattern, needed by two", "a: b.o c\n\ta\nc: b.o\n\tc\n%.o: %.c\n\tcc $@\n", "", []string{"b.c"}, []string{"cc b.o", "c", "a"}},
		{"not stale", "a: b c\n\ta\nb: d\n\tb\nc: d\n\tc\nd:\n\td\n", "", []string{"a 4", "b 3", "c 2", "d 1"}, nil},
		{"one side stale", "a: b c\n\ta\nb: d\n\tb\nc: d\n\tc\nd:\n\td\n", "", []string{"a 4", "b 3", "c 2", "d 3"}, []string{"c", "a"}},
		{"stale, but not wanted", "a: b\n\ta\nb:\n\tb\nc: a\n\tc\n", "", []string{"a 2", "b 1"}, nil},
		{"a goal below", "a: b\n\ta\nb: c\n\tb\nc:\n\tc\n", "b", nil, []string{"c", "b"}},
	} {
		got := mustMake(t, c.why, rulesAnd(c.rules, c.there...), c.goal, nil, 10)
		if !slices.Equal(got.Commands, c.want) {
			t.Errorf("P7: %s: %q, want %q", c.why, got.Commands, c.want)
		}
	}
}

// net: rules for nodes that need some of those ahead of them, with commands of which each is one node's alone;
// files for some; and the last node as the goal. There are nodes by patterns, too, with and without a rule or a file of their own.
func (r randomRules) net() ([]api.File, string) {
	var rules strings.Builder
	var files []api.File
	count := 2 + r.Intn(9)
	names := []string{"leaf"}
	for i := range count {
		needs := ""
		for range 1 + r.Intn(3) {
			needs += " " + names[r.Intn(len(names))]
		}
		if i > 0 {
			needs += " " + names[len(names)-1]
		}
		name := "n" + strconv.Itoa(i)
		switch r.Intn(14) {
		case 0:
			rules.WriteString(".PHONY: " + name + "\n" + name + ":" + needs + "\n\t$@ 1\n")
		case 1, 2:
			rules.WriteString(name + ":" + needs + "\n")
		case 3, 4:
			name += ".o"
			rules.WriteString("n" + strconv.Itoa(i) + "%:" + needs + "\n\t$@ 1\n\t$@ 2\n" + name + ":\n")
		case 5:
			name += ".o"
			rules.WriteString("n" + strconv.Itoa(i) + "%: leaf\n\t$@ 1\n")
		case 6, 7:
			rules.WriteString(name + ":\n\t$@ 1\n\t$(E)\n\t$@ 2\n" + name + ":" + needs + "\n")
		default:
			rules.WriteString(name + ":" + needs + "\n\t$@ 1\n")
		}
		if r.Intn(2) == 0 {
			files = append(files, api.File{Path: name, Time: r.Intn(8)})
		}
		names = append(names, name)
	}
	files = append(files, api.File{Path: "leaf", Time: r.Intn(4)}, api.File{Path: "R", Text: rules.String()})
	return files, names[len(names)-1]
}

// ownDeeds: effects by which commands write the files of their nodes; one of so many is wrong.
func (r randomRules) ownDeeds(nodes []*modelNode) []api.Effect {
	var effects []api.Effect
	for _, node := range nodes {
		for _, command := range node.commands {
			e := own(command, node.name)
			if r.isWrong() {
				switch r.Intn(4) {
				case 0:
					e.Writes = nil
				case 1:
					e.Writes = append(e.Writes, api.File{Path: nodes[r.Intn(len(nodes))].name})
				case 2:
					e.Writes = append(e.Writes, api.File{Path: "R"})
				default:
					e.Exit = 1
				}
			}
			effects = append(effects, e)
		}
	}
	return effects
}

// needsAll tells the names that a node needs, directly or not.
func needsAll(nodes []*modelNode, name string) map[string]bool {
	all := map[string]bool{}
	var from func(name string)
	from = func(name string) {
		at := slices.IndexFunc(nodes, func(n *modelNode) bool { return n.name == name })
		for _, need := range nodes[at].needs {
			if !all[need] {
				all[need] = true
				from(need)
			}
		}
	}
	from(name)
	return all
}

// checkGiven holds the commands that were given, of which each is one node's alone, against P7.
func checkGiven(t *testing.T, nodes []*modelNode, got api.Result, wasStale map[string]bool) {
	t.Helper()
	owner := map[string]string{}
	for _, node := range nodes {
		for _, command := range node.commands {
			owner[command] = node.name
		}
		given := slices.ContainsFunc(got.Commands, func(c string) bool { return owner[c] == node.name })
		if given != (wasStale[node.name] && len(node.commands) > 0) {
			t.Fatalf("P7: %s, stale %v: %q", node.name, wasStale[node.name], got.Commands)
		}
	}
	for i, command := range got.Commands {
		name, known := owner[command]
		if !known || slices.Contains(got.Commands[:i], command) {
			t.Fatalf("P7: %q is given twice, or is no node's: %q", command, got.Commands)
		}
		needed := needsAll(nodes, name)
		for _, behind := range got.Commands[i:] {
			if needed[owner[behind]] {
				t.Fatalf("P7: %q is given ahead of %q: %q", command, behind, got.Commands)
			}
		}
	}
}

func TestMakeRandomNets(t *testing.T) {
	for i := range 6000 {
		r := randomRules{rand.New(rand.NewSource(int64(i))), 8}
		files, goal := r.net()
		nodes, errno, _ := modelCompile(files, "R", goal)
		if errno != api.OK {
			t.Fatalf("%+v: %d", files, errno)
		}
		effects, clock := r.ownDeeds(nodes), r.Intn(12)
		_, wasStale := modelDone(nodes, files, effects, clock)
		checkGiven(t, nodes, mustMake(t, "a net", files, goal, effects, clock), wasStale)
	}
}

// isP8 tells whether what P8 asks for is so, of a Make that gave this result.
func isP8(nodes []*modelNode, files []api.File, goal string, effects []api.Effect, clock int, got api.Result, wasStale map[string]bool) bool {
	rules := rulesModel{files: files, values: map[string]string{}, late: map[string]bool{}}
	text, _ := rules.file("R")
	rules.read(text)
	ok := got.Exit == 0
	for _, f := range files {
		ok = ok && f.Time <= clock
	}
	for _, node := range nodes {
		_, isFile := rules.file(node.name)
		ok = ok && !node.phony && (isFile || rules.isTarget(node.name))
		if !wasStale[node.name] {
			continue
		}
		ok = ok && (node.name == goal || len(node.commands) > 0)
		for _, command := range node.commands {
			at := slices.IndexFunc(effects, func(e api.Effect) bool { return e.Command == command })
			ok = ok && at >= 0 && len(effects[at].Writes) == 1 && effects[at].Writes[0].Path == node.name && node.name != "R"
		}
	}
	return ok
}

func TestMakeAgainGivesNothing(t *testing.T) {
	held, gave := 0, 0
	for i := range 15000 {
		r := randomRules{rand.New(rand.NewSource(int64(i))), 40}
		files, goal := r.net()
		nodes, _, _ := modelCompile(files, "R", goal)
		effects, clock := r.ownDeeds(nodes), 6+r.Intn(6)
		got, errno, _ := maker.Make(files, "R", goal, effects, clock)
		_, wasStale := modelDone(nodes, files, effects, clock)
		if errno != api.OK || !isP8(nodes, files, goal, effects, clock, got, wasStale) {
			continue
		}
		again, errno, line := maker.Make(got.Files, "R", goal, effects, got.Clock)
		if errno != api.OK || line != 0 || !sameResult(again, result(nil, got.Files, 0, got.Clock)) {
			t.Fatalf("P8: Make(%+v, %q, %+v, %d): %+v, and again: %+v, %d, line %d", files, goal, effects, clock, got, again, errno, line)
		}
		held++
		if len(got.Commands) > 2 {
			gave++
		}
	}
	if held < 3000 || gave < 1500 {
		t.Errorf("only %d Makes are such as P8 asks for, and %d of them gave more than 2 commands", held, gave)
	}
}

type againCase struct {
	why, rules string
	there      []string
	effects    []api.Effect
	clock      int
	first      []string
	second     []string
}

func checkAgain(t *testing.T, cases []againCase) {
	t.Helper()
	for _, c := range cases {
		first := mustMake(t, c.why, rulesAnd(c.rules, c.there...), "", c.effects, c.clock)
		if !slices.Equal(first.Commands, c.first) {
			t.Errorf("P6: %s: %q, want %q", c.why, first.Commands, c.first)
		}
		second := mustMake(t, c.why, first.Files, "", c.effects, first.Clock)
		if !slices.Equal(second.Commands, c.second) {
			t.Errorf("P8: %s: again: %q, want %q", c.why, second.Commands, c.second)
		}
	}
}

func TestMakeAgain(t *testing.T) {
	abc := []api.Effect{own("a", "a"), own("b", "b"), own("c", "c")}
	chain := "a: b\n\ta\nb: c\n\tb\n"
	checkAgain(t, []againCase{
		{"all are made", chain, []string{"c 10"}, abc, 10, []string{"b", "a"}, nil},
		{"the clock is as great as a time", chain, []string{"a 10", "b 9", "c 10"}, abc, 10, []string{"b", "a"}, nil},
		{"nothing was stale", chain, []string{"a 3", "b 2", "c 1"}, abc, 10, nil, nil},
		{"the goal has no commands", "a: b\nb: c\n\tb\n", []string{"c 1"}, abc, 10, []string{"b"}, nil},
		{"a node without commands that was not stale", "a: b\n\ta\nb: c\n", []string{"b 5", "c 5"}, abc, 10, []string{"a"}, nil},
		{"a pattern, and a rule of no pattern", "a: b.o\n\ta\n%.o: %\n\tc\n%.o: c\n\tcc\nb.o:\n", []string{"c 1"}, []api.Effect{own("a", "a"), own("cc", "b.o")}, 10, []string{"cc", "a"}, nil},
		{"a pattern, and a file", "a: b.o\n\ta\n%.o: c\n\tcc\n", []string{"b.o 1", "c 2"}, []api.Effect{own("a", "a"), own("cc", "b.o")}, 10, []string{"cc", "a"}, nil},
		{"times below 0", chain, []string{"b -7", "c -6"}, abc, -5, []string{"b", "a"}, nil},
		{"the last clock there is", "a: c\n\ta\n", []string{"c " + strconv.Itoa(math.MaxInt-1)}, abc, math.MaxInt - 1, []string{"a"}, nil},
	})
}

// What P8 asks for is all needed: where one thing is not so commands may be given again.
func TestMakeAgainWithoutWhatIsAskedFor(t *testing.T) {
	abc := []api.Effect{own("a", "a"), own("b", "b"), own("c", "c")}
	also := func(command string, paths ...string) api.Effect {
		e := api.Effect{Command: command}
		for _, path := range paths {
			e.Writes = append(e.Writes, api.File{Path: path})
		}
		return e
	}
	fails := own("a", "b")
	fails.Exit = 1
	turns := own("b", "R")
	turns.Writes[0].Text = "a: b\n\tother\nb:\n"
	chain := "a: b\n\ta\nb: c\n\tb\n"
	checkAgain(t, []againCase{
		{"an exit", "a: c\n\ta\n", []string{"c"}, []api.Effect{fails}, 10, []string{"a"}, []string{"a"}},
		{"a phony node", ".PHONY: b\n" + chain, []string{"c"}, abc, 10, []string{"b", "a"}, []string{"b", "a"}},
		{"by a pattern alone, which another one takes over", "a: x.a x.b\n\ta\n%.a: %.b\n\tby b\n%.a: c\n\tby c\n%.b: c\n\tb\n", []string{"c"}, []api.Effect{own("a", "a"), own("by c", "x.a"), own("by b", "x.a"), own("b", "x.b")}, 10, []string{"by c", "b", "a"}, []string{"by b", "a"}},
		{"stale, without commands", "a: b\n\ta\nb: c\n", []string{"b 4", "c 5"}, abc, 10, []string{"a"}, []string{"a"}},
		{"stale, with commands of which nothing is left", "a: b\n\ta\nb: c\n\t$(E)\n", []string{"b 4", "c 5"}, abc, 10, []string{"a"}, []string{"a"}},
		{"a time greater than the clock", chain, []string{"c 50"}, abc, 10, []string{"b", "a"}, []string{"b", "a"}},
		{"a command that writes nothing", chain, []string{"c 5"}, []api.Effect{own("a", "a")}, 10, []string{"b", "a"}, []string{"b", "a"}},
		{"a command that writes more", "a: b d\n\ta\nb: c\n\tb\nd:\n\td\n", []string{"c 5"}, []api.Effect{own("a", "a"), own("b", "b"), also("d", "d", "c")}, 10, []string{"b", "d", "a"}, []string{"b", "a"}},
		{"a command that writes the rules", "a: b R\n\ta\nb:\n\tb\n", nil, []api.Effect{own("a", "a"), turns}, 10, []string{"b", "a"}, []string{"other"}},
		// The document's clock goes round at int's end, and then what is made is older than what it was made of.
		{"a clock that goes round", "a: c\n\ta\n", []string{"c 5"}, abc, math.MaxInt, []string{"a"}, []string{"a"}},
	})
}
