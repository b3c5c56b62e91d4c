package maker_test

import (
	"math"
	"math/rand"
	"reflect"
	"slices"
	"strings"
	"testing"

	"maker/api"
	"maker/maker"
)

// compareMake holds Make against Compile and Run, and against the model of them both; it tells what Make answers.
func compareMake(t *testing.T, files []api.File, path, goal string, effects []api.Effect, clock int) (api.Result, api.Errno) {
	t.Helper()
	got, errno, line := maker.Make(files, path, goal, effects, clock)
	plan, wantErrno, wantLine := maker.Compile(files, path, goal)
	nodes, modelErrno, modelLine := modelCompile(files, path, goal)
	if errno != wantErrno || line != wantLine || errno != modelErrno || line != modelLine {
		t.Fatalf("P6: Make(%+v, %q, %q): %d, line %d, want %d, line %d", files, path, goal, errno, line, modelErrno, modelLine)
	}
	if errno != api.OK {
		if !isEmpty(got) {
			t.Fatalf("P7: Make(%+v, %q, %q): %+v beside the error %d", files, path, goal, got, errno)
		}
		return got, errno
	}
	ran, _ := maker.Run(plan, files, effects, clock)
	want := modelDo(nodes, files, effects, clock)
	if !sameResult(got, ran) || !sameResult(got, want) {
		t.Fatalf("P6: Make(%+v, %q, %q, %+v, %d): %+v, Run has %+v, want %+v", files, path, goal, effects, clock, got, ran, want)
	}
	return got, errno
}

// mustMake makes what rules R without an error tell.
func mustMake(t *testing.T, why string, files []api.File, goal string, effects []api.Effect, clock int) api.Result {
	t.Helper()
	got, errno := compareMake(t, files, "R", goal, effects, clock)
	if errno != api.OK {
		t.Fatalf("P6: %s: %d", why, errno)
	}
	return got
}

func TestMakeOfTheDocument(t *testing.T) {
	files := rulesAnd(documentRules, "a.c 5", "a.o 3")
	got := mustMake(t, "the example", files, "", nil, 10)
	if want := result([]string{"cc -o a.o a.c", "mk b"}, files, 0, 12); !sameResult(got, want) {
		t.Errorf("P6: %+v, want %+v", got, want)
	}
	files = rulesAnd(documentRules, "a.c 5", "a.o 5")
	got = mustMake(t, "with a.o's time 5", files, "", nil, 10)
	if want := result([]string{"mk b"}, files, 0, 11); !sameResult(got, want) {
		t.Errorf("P6: %+v, want %+v", got, want)
	}
	files = rulesAnd(documentRules, "a.c 5", "a.o 3")
	got = mustMake(t, "with the exit 3", files, "", []api.Effect{{Command: "cc -o a.o a.c", Exit: 3}}, 10)
	if want := result([]string{"cc -o a.o a.c"}, files, 3, 11); !sameResult(got, want) {
		t.Errorf("P6: %+v, want %+v", got, want)
	}
}

// Whatever the error is, and wherever it is found, nothing is done; the line is Compile's.
func TestMakeErrors(t *testing.T) {
	effects := []api.Effect{{Command: "go", Writes: []api.File{{Path: "made"}}, Exit: 3}}
	for _, c := range []struct {
		why, rules, goal string
		errno            api.Errno
		line             int
	}{
		{"a line that is none", "a:\n\tgo\nwhat\n", "", api.ErrSyntax, 3},
		{"a command of no rule", "\tgo\na:\n\tgo\n", "", api.ErrSyntax, 1},
		{"the last command of the last node", "a: b\n\tgo\n\tgo $x\nb:\n\tgo\n", "", api.ErrSyntax, 3},
		{"no file", "a:\n\tgo\ninclude none\n", "", api.ErrInclude, 3},
		{"a line within an include", "a:\n\tgo\ninclude I\n", "", api.ErrSyntax, 4},
		{"too deep", "a:\n\tgo\n\ninclude D\n", "", api.ErrDeep, 2},
		{"a loop", "A = $(A)\na: b\n\t$(A)\nb:\n\tgo\n", "", api.ErrLoop, 3},
		{"too long a text", "a:\n\tgo\n\t" + strings.Repeat("x", 2001) + "\n", "", api.ErrSize, 3},
		{"too many rules", strings.Repeat("a:\n", 65) + "\tgo\n", "", api.ErrSize, 65},
		{"too many commands", "a:\n" + strings.Repeat("\tgo\n", 501), "", api.ErrSize, 0},
		{"too many nodes", "a:" + words("n", 100) + "\n\tgo\n" + words("n", 100) + ":\n\tgo\n", "a", api.ErrSize, 0},
		{"too long a goal", "%:\n\tgo\n", strings.Repeat("g", 2001), api.ErrSize, 0},
		{"twice", "a:\n\tgo\na:\n\tgo\n", "", api.ErrTwice, 4},
		{"a cycle behind a node with commands", "a: b c\n\tgo\nb:\n\tgo\nc: a\n", "", api.ErrCycle, 0},
		{"a node without a rule behind one with commands", "a: b c\n\tgo\nb:\n\tgo\n", "", api.ErrRule, 0},
		{"another goal", "a:\n\tgo\n", "b", api.ErrRule, 0},
		{"no goal", ".PHONY: a\n%:\n\tgo\n", "", api.ErrRule, 0},
		{"no rules", "", "", api.ErrRule, 0},
	} {
		files := included(rulesAnd(c.rules), "I", "\n\n\n$(\n", "D", "\ninclude D\n")
		got, errno, line := maker.Make(files, "R", c.goal, effects, 10)
		if errno != c.errno || line != c.line || !isEmpty(got) {
			t.Errorf("P6: %s: %+v, %d, line %d, want %d, line %d", c.why, got, errno, line, c.errno, c.line)
		}
		compareMake(t, files, "R", c.goal, effects, 10)
	}
	for _, files := range [][]api.File{nil, {}, {{Path: "r", Text: "a:\n\tgo\n"}}} {
		got, errno, line := maker.Make(files, "R", "", effects, 10)
		if errno != api.ErrInclude || line != 0 || !isEmpty(got) {
			t.Errorf("P6: no file R: %+v, %d, line %d", got, errno, line)
		}
	}
}

// Exits are no errors: what was done until then is told.
func TestMakeExits(t *testing.T) {
	files := rulesAnd("a: b c\n\ta 1\n\ta 2\nb:\n\tb\nc: d\n\tc\nd:\n\td 1\n\td 2\n\td 3\n")
	all := []string{"b", "d 1", "d 2", "d 3", "c", "a 1", "a 2"}
	for i, command := range all {
		for _, exit := range []int{1, -1, 255, math.MinInt, math.MaxInt} {
			effects := []api.Effect{{Command: command, Writes: []api.File{{Path: "made", Text: "by it", Time: -3}}, Exit: exit}}
			got := mustMake(t, command, files, "", effects, 10)
			want := result(all[:i+1], append(slices.Clone(files), file("made", "by it", 11+i)), exit, 11+i)
			if !sameResult(got, want) {
				t.Errorf("P6: %s with the exit %d: %+v, want %+v", command, exit, got, want)
			}
		}
	}
	got := mustMake(t, "an exit of what is not given", files, "c", []api.Effect{{Command: "b", Exit: 1}, {Command: "a 1", Exit: 2}}, 10)
	if want := result(all[1:5], files, 0, 14); !sameResult(got, want) {
		t.Errorf("P6: %+v, want %+v", got, want)
	}
}

// The files that are handed in decide what is wanted; those at the moment decide what is stale.
func TestMakeMoments(t *testing.T) {
	writes := func(command string, paths ...string) api.Effect {
		e := api.Effect{Command: command}
		for _, path := range paths {
			e.Writes = append(e.Writes, api.File{Path: path})
		}
		return e
	}
	for _, c := range []struct {
		why, rules string
		there      []string
		effects    []api.Effect
		want       []string
	}{
		{"rules that are written over", "a: b\n\ta\nb:\n\tb\n", nil, []api.Effect{writes("b", "R")}, []string{"b", "a"}},
		{"a pattern's file that is written is no file yet", "a: b c.o\n\ta\nb:\n\tb\nc.o:\n%.o: x\n\tby pattern\n", nil, []api.Effect{writes("b", "x")}, []string{"b", "a"}},
		{"a pattern's file that was there", "a: b c.o\n\ta\nb:\n\tb\nc.o:\n%.o: x\n\tby pattern\n", []string{"x"}, []api.Effect{writes("b", "x")}, []string{"b", "by pattern", "a"}},
		{"a node that is written ahead of its turn", "a: b c\n\ta\nb:\n\tb\nc:\n\tc\n", nil, []api.Effect{writes("b", "b", "c")}, []string{"b", "a"}},
		{"the goal written ahead of its turn, and a need stale", "a: b\n\ta\nb:\n\tb\n", nil, []api.Effect{writes("b", "b", "a")}, []string{"b", "a"}},
		{"a need that is written becomes newer", "a: p b\n\ta\np:\n\tp\nb: x\n\tb\n", []string{"a 9", "b 9", "x 1"}, []api.Effect{writes("p", "x")}, []string{"p", "b", "a"}},
		{"a need that is written over is not looked at again", "a: b p\n\ta\nb: x\n\tb\np:\n\tp\n", []string{"b 9", "x 1"}, []api.Effect{writes("p", "x")}, []string{"p", "a"}},
		{"the goal's file newer than all", "a: b\n\ta\nb: c\n\tb\n", []string{"a 9", "b 8", "c 7"}, nil, nil},
		{"the goal's file as old", "a: b\n\ta\nb: c\n\tb\n", []string{"a 7", "b 7", "c 7"}, nil, nil},
		{"the goal a file without a rule", "q:\n\tq\n", []string{"a"}, nil, nil},
	} {
		files := rulesAnd(c.rules, c.there...)
		if got := mustMake(t, c.why, files, "a", c.effects, 10); !slices.Equal(got.Commands, c.want) {
			t.Errorf("P6: %s: %q, want %q", c.why, got.Commands, c.want)
		}
	}
}

func TestMakeTheFirstFileCounts(t *testing.T) {
	files := append(rulesAnd("a: b\n\tfirst\n", "a 5", "b 6"), rulesAnd("a: b\n\tsecond\n", "a 7", "b 1")...)
	got := mustMake(t, "files twice", files, "", nil, 10)
	if want := result([]string{"first"}, files[:3], 0, 11); !sameResult(got, want) {
		t.Errorf("P1: %+v, want %+v", got, want)
	}
	effects := []api.Effect{{Command: "first", Exit: 2}, {Command: "first", Exit: 3}}
	if got := mustMake(t, "effects twice", files, "", effects, 10); got.Exit != 2 {
		t.Errorf("P6: %+v", got)
	}
}

func TestMakeAtIntsEnds(t *testing.T) {
	files := rulesAnd("a: b c\n\ta\nb:\n\tb\n", "a", "b", "c")
	times := []int{math.MinInt, math.MinInt + 1, -1, 0, math.MaxInt - 1, math.MaxInt}
	effects := []api.Effect{{Command: "b", Writes: []api.File{{Path: "b"}}}, {Command: "a", Writes: []api.File{{Path: "a"}}}}
	for _, one := range times {
		for _, other := range times {
			for _, clock := range times {
				files[1].Time, files[3].Time = one, other
				mustMake(t, "times", files, "", effects, clock)
				got := mustMake(t, "times, without b", slices.Delete(slices.Clone(files), 2, 3), "", effects, clock)
				if got.Clock != clock+2 || got.Files[1].Time != clock+2 {
					t.Errorf("P6: %d, %d, %d: %+v", one, other, clock, got)
				}
			}
		}
	}
}

func TestMakeLeavesItsArguments(t *testing.T) {
	make1 := func() ([]api.File, []api.Effect) {
		files := wideFiles(rulesAnd("a: b\n\tgo $@\nb:\n\tgo $@\n", "c 2", "R 1", "c 7")...)
		effects := []api.Effect{
			{Command: "go b", Writes: wideFiles(file("b", "new", 40), file("c", "", 41), file("R", "", 42))},
			{Command: "go a", Writes: wideFiles(file("a", "", 42)), Exit: 1},
			{Command: "spare", Writes: wideFiles(file("d", "", 0)), Exit: 6},
		}
		return files, effects[:2]
	}
	files, effects := make1()
	sameFiles, sameEffects := make1()
	got := mustMake(t, "lists with spare room", files, "", effects, 5)
	want := result([]string{"go b", "go a"}, []api.File{file("R", "", 6), file("a", "", 7), file("b", "new", 6), file("c", "", 6)}, 1, 7)
	if !sameResult(got, want) {
		t.Errorf("P6: %+v, want %+v", got, want)
	}
	for i := range got.Commands[:cap(got.Commands)] {
		got.Commands[:cap(got.Commands)][i] = "the caller's"
	}
	for i := range got.Files[:cap(got.Files)] {
		got.Files[:cap(got.Files)][i] = file("the caller's", "too", -8)
	}
	untouched := func(a, b []api.File) bool { return slices.Equal(a[:cap(a)], b[:cap(b)]) }
	if !untouched(files, sameFiles) {
		t.Errorf("P1: the files are changed: %+v", files[:cap(files)])
	}
	for i, e := range sameEffects[:cap(sameEffects)] {
		f := effects[:cap(effects)][i]
		if f.Command != e.Command || f.Exit != e.Exit || !untouched(f.Writes, e.Writes) {
			t.Errorf("P1: the effects are changed: %+v", f)
		}
	}
	if got := mustMake(t, "the same once more", files, "", effects, 5); !sameResult(got, want) {
		t.Errorf("P1: %+v, want %+v", got, want)
	}
}

// What comes out does not change with the arguments, nor with another answer.
func TestMakeAnswersNewMemory(t *testing.T) {
	files := rulesAnd("a:\n\tgo\n\tgo\n", "b")
	effects := []api.Effect{{Command: "go", Writes: []api.File{{Path: "c", Text: "made"}}}}
	one := mustMake(t, "one", files, "", effects, 5)
	other := mustMake(t, "the other", files, "", effects, 5)
	want := result([]string{"go", "go"}, []api.File{files[0], file("b", "", 0), file("c", "made", 7)}, 0, 7)
	one.Commands[0], one.Files[0].Text = "x", "x"
	_ = append(one.Commands, "more")
	_ = append(one.Files, file("more", "", 0))
	files[1].Text, effects[0].Writes[0].Text = "y", "y"
	if !sameResult(other, want) {
		t.Errorf("P1: %+v, want %+v", other, want)
	}
}

func TestMakeNilAndEmpty(t *testing.T) {
	files := rulesAnd("a:\n\tgo\n")
	want := mustMake(t, "nil", files, "", nil, 2)
	for _, effects := range [][]api.Effect{{}, {{Command: "go"}}, {{Command: "go", Writes: []api.File{}}}} {
		if got := mustMake(t, "empty", files, "", effects, 2); !reflect.DeepEqual(got, want) {
			t.Errorf("P1: %+v, want %+v", got, want)
		}
	}
}

func TestMakeAnswersTheSameEachTime(t *testing.T) {
	rules := "A = 1\nB = $(A)\nall:" + words("n", 40) + "\n\t$^ $(B)\nn%: R S\n\t$* $@\nn%: S\n\tno\n.PHONY:" + words("n", 20) + "\n"
	files := rulesAnd(rules, "S", "n30", "n31 7")
	effects := []api.Effect{{Command: "32 n32", Writes: []api.File{{Path: "z"}, {Path: "y"}}}}
	want := mustMake(t, "many names", files, "", effects, 3)
	for range 50 {
		if got := mustMake(t, "many names", files, "", effects, 3); !reflect.DeepEqual(got, want) {
			t.Fatalf("P1: %+v, want %+v", got, want)
		}
		slices.Reverse(files)
	}
}

func TestMakeRandomRules(t *testing.T) {
	clocks := []int{math.MinInt, -2, 0, 1, 5, math.MaxInt - 1, math.MaxInt}
	seen := map[api.Errno]int{}
	for i := range 12000 {
		r := randomRules{rand.New(rand.NewSource(int64(1000000 + i))), []int{10, 60, 100000}[i%3]}
		files := r.files()
		goal := r.of("", "", "", "a", "b", "a.o", "b.o", "x", "aa")
		nodes, _, _ := modelCompile(files, "R", goal)
		names, commands := namesOf(nodes)
		_, errno := compareMake(t, files, "R", goal, randomDeeds(r.Rand, append(names, "R", "I"), commands), r.of2(clocks...))
		seen[errno]++
	}
	for _, errno := range []api.Errno{api.OK, api.ErrSyntax, api.ErrInclude, api.ErrDeep, api.ErrLoop, api.ErrTwice, api.ErrCycle, api.ErrRule} {
		if seen[errno] < 10 {
			t.Errorf("the random rules show the error %d only %d times: %v", errno, seen[errno], seen)
		}
	}
}

func TestMakeAnyBytes(t *testing.T) {
	r := rand.New(rand.NewSource(8))
	pieces := []string{"a", "b", "A", "include R", " ", "\t", "\n", "\n\t", "\\", "\\\n", "#", ":", "=", "$", "$(A)", "%", ".PHONY:", "$@", "\x00", "\xff"}
	text := func() string {
		var b strings.Builder
		for range r.Intn(12) {
			b.WriteString(pieces[r.Intn(len(pieces))])
		}
		return b.String()
	}
	for range 10000 {
		files := included(rulesAnd("a:"+text(), "b"), text(), text())
		effects := []api.Effect{{Command: text(), Writes: []api.File{{Path: text()}}, Exit: r.Intn(2)}}
		compareMake(t, files, pieces[r.Intn(len(pieces))], text(), effects, r.Int())
		compareMake(t, files, "R", pieces[r.Intn(len(pieces))], effects, -r.Int())
	}
}
