package maker_test

import (
	"math"
	"math/rand"
	"slices"
	"strconv"
	"strings"
	"testing"
	"time"

	"maker/api"
	"maker/maker"
)

func TestCompileWords(t *testing.T) {
	for _, c := range []struct {
		why, rules string
		errno      api.Errno
		line       int
	}{
		{"no target", "q:\n$(E) $(E): a\n", api.ErrSyntax, 2},
		{"no need", "q:\n", api.OK, 0},
		{"two % in a target", "q:\na%b%: c\n", api.ErrSyntax, 2},
		{"two % in a target of several", "q:\nc a%b%: c\n", api.ErrSyntax, 2},
		{"two % in a need", "q:\n%: %%\n", api.ErrSyntax, 2},
		{"two % in a need of a rule", "q:\na: %%\n", api.ErrSyntax, 2},
		{"two % by names", "P = %\n$(P)$(P): a\nq:\n", api.ErrSyntax, 2},
		{"a % in each of several needs", "%: a% %b %\nq:\n", api.OK, 0},
		{"a % in the second target", "q:\na %: b\n", api.ErrSyntax, 2},
		{"a % in the first target", "q:\n% a: b\n", api.ErrSyntax, 2},
		{"a % in both targets", "q:\n%a %b: b\n", api.ErrSyntax, 2},
		{"a % in the same target twice", "q:\n%a %a: b\n", api.ErrSyntax, 2},
		{"a % in a need alone", "q:\na: b %c\n", api.ErrSyntax, 2},
		{"a % in a need of .PHONY", "q:\n.PHONY: %\n", api.ErrSyntax, 2},
		{".PHONY% is a pattern", "q:\n.PHONY%: %\n\tx\n", api.OK, 0},
		{"a pattern's needs without %", "q:\n%: a b\n\tx\n", api.OK, 0},
		{"a pattern without needs", "q:\n%:\n\tx\n", api.OK, 0},
		{"a % in a value", "A = %%\nq:\n", api.OK, 0},
		{"a % in a command", "q:\n\t%%\n", api.OK, 0},
		{"expanding ahead of the words", "%%: $x\n", api.ErrSyntax, 1},
		{"expanding ahead of the words", "A = $(A)\n%%: $(A)\n", api.ErrLoop, 2},
		{"the number of a line that goes on", "q:\n\n%% \\\n: \\\n b\n", api.ErrSyntax, 3},
		{"the first wrong line", "q:\n%%:\nwhat\n", api.ErrSyntax, 2},
		{"the first wrong line", "q:\nwhat\n%%:\n", api.ErrSyntax, 2},
		{"a command of no rule", "\tgo\nq:\n", api.ErrSyntax, 1},
		{"a command behind an assignment", "q:\nA = 1\n\tgo\n", api.ErrSyntax, 3},
		{"a command behind a fixed one", "q:\nA := 1\n\tgo\n", api.ErrSyntax, 3},
		{"a command of .PHONY", "q:\n\n.PHONY: q\n\tgo\n", api.ErrSyntax, 4},
		{"a command of .PHONY by a name", "P = .PHONY\nq:\n$(P): q\n\tgo\n", api.ErrSyntax, 4},
		{"a command of .PHONY without needs", ".PHONY:\n\tgo\n", api.ErrSyntax, 2},
		{"a command of .PHONY and another", ".PHONY q:\n\tgo\n", api.OK, 0},
		{"a command of a .PHONY with blanks in it counts for nothing", ".PHONY:\n\t \t\nq:\n", api.OK, 0},
	} {
		wantErrno(t, c.why, rulesAnd(c.rules), "", c.errno, c.line)
	}
}

func TestCompileTwice(t *testing.T) {
	for _, c := range []struct {
		why, rules string
		errno      api.Errno
		line       int
	}{
		{"twice", "a:\n\tx\na:\n\ty\n", api.ErrTwice, 4},
		{"the same commands", "a:\n\tx\na:\n\tx\n", api.ErrTwice, 4},
		{"one of several", "a b:\n\tx\nc b:\n\n\ty\n\tz\n", api.ErrTwice, 5},
		{"found with a rule far ahead", "a:\n\tx\nb:\n\tx\nc:\n\tx\nd a:\n\tx\n", api.ErrTwice, 8},
		{"the first rule has none", "a:\na:\n\tx\na:\n", api.OK, 0},
		{"the commands of one rule", "a:\n\tx\n\ty\n\tx\n", api.OK, 0},
		{"a target twice in one rule", "a a:\n\tx\n\ty\n", api.OK, 0},
		{"a need", "a: b\n\tx\nb: c\n\ty\nc:\n\tz\n", api.OK, 0},
		{"patterns", "%: a\n\tx\n%: a\n\ty\nq:\n", api.OK, 0},
		{"a pattern and a rule", "%: a\n\tx\nq:\n\ty\n", api.OK, 0},
		{"a command that comes to nothing", "a:\n\t$(E)\na:\n\ty\n", api.ErrTwice, 4},
		{"a command of blanks alone is none", "a:\n\t  \na:\n\ty\n", api.OK, 0},
		{"no goal of it is wanted", "q:\na:\n\tx\na:\n\ty\n", api.ErrTwice, 5},
		{"ahead of what its expanding would tell", "a:\n\tx\na:\n\t$x\n", api.ErrTwice, 4},
		{"names on the way", "A = a\n$(A):\n\tx\nb $(A):\n\ty\n", api.ErrTwice, 5},
	} {
		wantErrno(t, c.why, rulesAnd(c.rules), "", c.errno, c.line)
	}
	files := included(rulesAnd("a:\n\tx\ninclude I\n"), "I", "\n\n\na:\n\n\ty\n")
	wantErrno(t, "in its own text", files, "", api.ErrTwice, 6)
}

func TestCompileManyRules(t *testing.T) {
	for _, c := range []struct {
		why, rules string
		errno      api.Errno
		line       int
	}{
		{"64", strings.Repeat("a:\n", 64), api.OK, 0},
		{"65", strings.Repeat("a:\n", 65), api.ErrSize, 65},
		{"64 patterns", "q:\n" + strings.Repeat("%:\n", 63), api.OK, 0},
		{"65 with patterns", "q:\n" + strings.Repeat("%:\n", 64), api.ErrSize, 65},
		{"64 with .PHONY", "q:\n" + strings.Repeat(".PHONY: x\n", 63), api.OK, 0},
		{"65 with .PHONY", "q:\n" + strings.Repeat(".PHONY: x\n", 64), api.ErrSize, 65},
		{"other lines are not counted", strings.Repeat("A = 1\nA := 1\na:\n\n", 64) + strings.Repeat("A = 1\n\n", 100), api.OK, 0},
		{"targets are not counted", words("a", 100) + ":\n", api.OK, 0},
		{"the words ahead of the number", strings.Repeat("a:\n", 64) + "%%:\n", api.ErrSyntax, 65},
		{"expanding ahead of the number", strings.Repeat("a:\n", 64) + "a: $x\n", api.ErrSyntax, 65},
		{"its commands behind the number", strings.Repeat("a:\n", 64) + "a:\n$\n", api.ErrSize, 65},
	} {
		wantErrno(t, c.why, rulesAnd(c.rules), "", c.errno, c.line)
	}
	files := included(rulesAnd(strings.Repeat("a:\n", 60)+"include I I\n"), "I", "\nb:\n\nb:\n")
	wantErrno(t, "60 and 4 that are included", files, "", api.OK, 0)
	files[0].Text += "a:\n"
	wantErrno(t, "60 and 4 that are included, and one more", files, "", api.ErrSize, 62)
	files[0].Text = strings.Repeat("a:\n", 61) + "include I I\n"
	wantErrno(t, "in its own text", files, "", api.ErrSize, 4)
}

func TestCompilePath(t *testing.T) {
	for _, files := range [][]api.File{nil, {}, {{Path: "r"}}, {{Path: ""}}} {
		if plan, errno, line := maker.Compile(files, "R", "a"); plan != "" || errno != api.ErrInclude || line != 0 {
			t.Errorf("P5: %v: %q, %d, %d", files, plan, errno, line)
		}
	}
	if _, errno, line := maker.Compile([]api.File{{Path: "", Text: "a:"}}, "", ""); errno != api.OK || line != 0 {
		t.Errorf("P5: %d, %d", errno, line)
	}
	long := strings.Repeat("p", 70000)
	if _, errno, line := maker.Compile([]api.File{{Path: long, Text: "a:"}}, long, ""); errno != api.OK || line != 0 {
		t.Errorf("P5: %d, %d", errno, line)
	}
	if _, errno, line := maker.Compile(nil, "R", long); errno != api.ErrInclude || line != 0 {
		t.Errorf("P5: the rules come ahead of the goal: %d, %d", errno, line)
	}
}

func TestCompileGoals(t *testing.T) {
	wantCommands(t, "an empty one is the first target", rulesAnd("b a:\n\t$@\na:\n"), "", "b")
	wantCommands(t, "of no pattern", rulesAnd("%.o: x\n\tp\na:\n\t$@\n"), "", "a")
	wantCommands(t, "nor of .PHONY", rulesAnd(".PHONY: b\na:\n\t$@\nb:\n\t$@\n"), "", "a")
	wantCommands(t, "of .PHONY and another", rulesAnd(".PHONY a:\n\t$@\n"), "", ".PHONY")
	wantCommands(t, ".PHONY twice", rulesAnd(".PHONY .PHONY: a\n\t$@ $^\na:\n"), "", ".PHONY a")
	wantCommands(t, "of an include", included(rulesAnd("include I\na:\n\ta\n"), "I", "b:\n\tb\n"), "", "b")
	wantCommands(t, "a file without rules", rulesAnd("", "a 3"), "a")
	wantCommands(t, "a phony one without rules", rulesAnd(".PHONY: a\n"), "a")
	wantCommands(t, "the rules' own file", rulesAnd("R:\n\tgo\n"), "R")
	wantCommands(t, "blanks in it", rulesAnd("%x: b\n\t[$@|$*]\nb:\n"), " a\tx", "[ a\tx| a\t]")
	wantCommands(t, "nothing of it is expanded", rulesAnd("%: b\n\t[$@|$*]\nb:\n\tb\n"), "$(A)$x", "b", "[$(A)$x|$(A)$x]")
	wantCommands(t, "a % in it", rulesAnd("%o: b%\n\t[$@|$*|$<]\n", "b%x%"), "%x%o", "[%x%o|%x%|b%x%]")
	wantErrno(t, "no target", rulesAnd("a:\n"), "b", api.ErrRule, 0)
	wantErrno(t, "a need is no target", rulesAnd("a: b\n"), "b", api.ErrRule, 0)
	wantErrno(t, "nothing is expanded", rulesAnd("A = a\na:\n"), "$(A)", api.ErrRule, 0)
	wantErrno(t, "a blank", rulesAnd("a:\n"), " ", api.ErrRule, 0)
	wantErrno(t, "two words", rulesAnd("a b:\n"), "a b", api.ErrRule, 0)
	wantErrno(t, ".PHONY", rulesAnd(".PHONY: a\n"), ".PHONY", api.ErrRule, 0)
	wantErrno(t, "a pattern's target", rulesAnd("%.o:\n"), "%.o", api.ErrRule, 0)
	wantErrno(t, "a pattern's target with commands", rulesAnd("%.o: q\n\tp\nq:\n"), "%.o", api.OK, 0)
	wantErrno(t, "a pattern's need", rulesAnd("%.o: q\n\tp\na:\n"), "q", api.ErrRule, 0)
	wantErrno(t, "an empty one, no rules", rulesAnd(""), "", api.ErrRule, 0)
	wantErrno(t, "an empty one, a file", rulesAnd("", "a"), "", api.ErrRule, 0)
	wantErrno(t, "an empty one, no target", rulesAnd("%: R\n\tx\n.PHONY: a\n"), "", api.ErrRule, 0)
	wantErrno(t, "errors of reading first", rulesAnd("a:\n$\n"), "b", api.ErrSyntax, 2)

	long := strings.Repeat("g", 2000)
	wantCommands(t, "2000 bytes", rulesAnd("g%: b\n\t$@\nb:\n"), long, long)
	wantErrno(t, "2001 bytes", rulesAnd("g%: b\n\tx\nb:\n"), long+"g", api.ErrSize, 0)
	wantErrno(t, "2001 bytes that are no target", rulesAnd("b:\n"), long+"h", api.ErrSize, 0)
	wantErrno(t, "2001 bytes that are a file", rulesAnd("b:\n", long+"h"), long+"h", api.ErrSize, 0)
	wantErrno(t, "2001 bytes, errors of reading first", rulesAnd("b:\nc\n"), long+"h", api.ErrSyntax, 2)
	wantErrno(t, "2000 bytes, and a need of more that is a file", rulesAnd("%: %h\n\tx\n", long+"h"), long, api.OK, 0)
}

func TestCompilePatterns(t *testing.T) {
	for _, c := range []struct {
		why, rules, goal string
		there            []string
		want             []string
	}{
		{"the first that fits", "%.o: %.c\n\t1 $*\n%.o: %.d\n\t2 $*\n", "a.o", []string{"a.d"}, []string{"2 a"}},
		{"the first of two that fit", "%.o: %.c\n\t1 $*\n%.o: %.d\n\t2 $*\n", "a.o", []string{"a.d", "a.c"}, []string{"1 a"}},
		{"not the one with the shortest stem", "%: %.c\n\t1 $*\n%.o: %.c\n\t2 $*\n", "a.o", []string{"a.c", "a.o.c"}, []string{"1 a.o"}},
		{"with all its needs", "%.o: %.c q %.h\n\t1 $^\n%.o: %.c\n\t2 $^\n", "a.o", []string{"a.c", "a.h"}, []string{"2 a.c"}},
		{"with all its needs", "%.o: %.c q %.h\n\t1 $^\n%.o: %.c\n\t2 $^\n", "a.o", []string{"a.c", "a.h", "q"}, []string{"1 a.c q a.h"}},
		{"without needs", "%.o:\n\t1 [$^]\n", "a.o", nil, []string{"1 []"}},
		{"without commands", "%.o: %.c\n%.o: %.d\n\t2 $^\n", "a.o", []string{"a.c", "a.d"}, []string{"2 a.d"}},
		{"with commands that come to nothing", "%.o: %.c\n\t$(E)\n%.o: %.d\n\t2 $^\n", "a.o", []string{"a.c", "a.d"}, nil},
		{"a need that is a target", "%.o: %.c\n\t1 $^\na.c:\n\tmk\n", "a.o", nil, []string{"mk", "1 a.c"}},
		{"a need that is a target of the very rule's kind", "%.o: %.c\n\t1 $^\na.c: b.c\n", "a.o", []string{"b.c"}, []string{"1 a.c"}},
		{"a target that has needs but no commands", "%.o: %.c\n\t1 $^\na.o: q z\n", "a.o", []string{"q", "z", "a.c"}, []string{"1 a.c q z"}},
		{"needs that come again", "%.o: %.c q\n\t$^\na.o: z a.c q y z\n", "a.o", []string{"q", "z", "y", "a.c"}, []string{"a.c q z y"}},
		{"needs that come again by the stem", "%.o: %.c a.c\n\t$^\n", "a.o", []string{"a.c"}, []string{"a.c"}},
		{"a target that has commands", "%.o: %.c\n\t1\na.o:\n\town [$*$<]\n", "a.o", []string{"a.c"}, []string{"own []"}},
		{"a target that has commands that come to nothing", "%.o: %.c\n\t1\na.o:\n\t$(E)\n", "a.o", []string{"a.c"}, nil},
		{"a phony target", "%.o: %.c\n\t1\n.PHONY: a.o\na.o: q\n", "a.o", []string{"a.c", "q"}, nil},
		{"a phony one that is told later", "%.o: %.c\n\t1\nq: a.o\n\tq\n.PHONY: a.o\n", "", []string{"a.c"}, []string{"q"}},
		{"a file", "%.o: %.c\n\t1 $@\n", "a.o", []string{"a.o 1", "a.c 2"}, []string{"1 a.o"}},
		{"a file that is no older", "%.o: %.c\n\t1 $@\n", "a.o", []string{"a.o 1", "a.c 1"}, nil},
		{"a file that fits no pattern", "%.o: %.c\n\t1 $@\n", "a.o", []string{"a.o 1"}, nil},
		{"% at the end", "a%: b%\n\t$* $<\n", "axy", []string{"bxy"}, []string{"xy bxy"}},
		{"% in the midst", "a%z: %\n\t$* $<\n", "axyz", []string{"xy"}, []string{"xy xy"}},
		{"% alone", "%: %.c\n\t$* $<\n", "a", []string{"a.c"}, []string{"a a.c"}},
		{"one need several times", "%: %.c %.d\n\t$* $^\n", "a", []string{"a.c", "a.d"}, []string{"a a.c a.d"}},
		{"a stem of one byte", "aa%aa: b\n\t$*\n", "aaaaa", []string{"b"}, []string{"a"}},
		{"a stem with signs", "%.o: b\n\t$*\n", "$(A).o", []string{"b"}, []string{"$(A)"}},
		{"a node on the way", "q: a.o b.o\n%.o: %.c\n\t1 $@\n", "", []string{"a.c", "b.c"}, []string{"1 a.o", "1 b.o"}},
		{"a need of a pattern that itself has one", "%.o: %.c\n\t1 $@\n%.c: %.y\n\t2 $@\n", "a.o", []string{"a.c 1", "a.y 2"}, []string{"2 a.c", "1 a.o"}},
		{"a pattern that is read later", "q: a.o\n\tq\n%.o: %.c\n\t1 $@\na.c:\n", "", nil, []string{"1 a.o", "q"}},
		{"commands of one pattern for several nodes", "q: a.o b.o\n%.o:\n\t1 $@\n\t2 $*\n", "", nil, []string{"1 a.o", "2 a", "1 b.o", "2 b"}},
	} {
		wantCommands(t, c.why, rulesAnd(c.rules, c.there...), c.goal, c.want...)
	}
	for _, c := range []struct {
		why, rules, goal string
		there            []string
		errno            api.Errno
	}{
		{"no stem", "%.o: b\n\tp\nb:\n", ".o", nil, api.ErrRule},
		{"no stem between", "aa%aa: b\n\tp\nb:\n", "aaaa", nil, api.ErrRule},
		{"what is ahead and behind would share", "aa%aa: b\n\tp\nb:\n", "aaa", nil, api.ErrRule},
		{"another beginning", "a%: b\n\tp\nb:\n", "ba", nil, api.ErrRule},
		{"another end", "%a: b\n\tp\nb:\n", "ab", nil, api.ErrRule},
		{"great and small letters", "%a: b\n\tp\nb:\n", "bA", nil, api.ErrRule},
		{"without commands", "%a: b\nb:\n", "ba", nil, api.ErrRule},
		{"a need that is not there", "%a: %b\n\tp\n", "ba", nil, api.ErrRule},
		{"a need that another pattern makes", "%.o: %.c\n\tp\n%.c: %.y\n\tp\n", "a.o", []string{"a.y"}, api.ErrRule},
		{"a need that is phony alone", "%.o: %.c\n\tp\n.PHONY: a.c\n", "a.o", nil, api.ErrRule},
		{"a need that is .PHONY", "%.o: .PHONY\n\tp\n.PHONY: a.c\n", "a.o", nil, api.ErrRule},
		{"a need that is a pattern's target", "%.o: %.c\n\tp\n%.c:\n\tp\n", "a.o", nil, api.ErrRule},
		{"a need that needs something", "%.o: %.c\n\tp\na.c: none\n", "a.o", nil, api.ErrRule},
		{"itself, a file", "%: %\n\tp\n", "a", []string{"a"}, api.ErrCycle},
		{"itself, a target", "%: %\n\tp\na:\n", "a", nil, api.ErrCycle},
		{"itself, neither", "%: %\n\tp\n", "a", nil, api.ErrRule},
		{"itself, with commands", "%: %\n\tp\na:\n\tgo\n", "a", nil, api.OK},
		{"the other way round", "%.o: %.c\n\tp\n%.c: %.o\n\tp\n", "a.o", []string{"a.o", "a.c"}, api.ErrCycle},
	} {
		wantErrno(t, c.why, rulesAnd(c.rules, c.there...), c.goal, c.errno, 0)
	}
}

func TestCompileOrder(t *testing.T) {
	for _, c := range []struct {
		why, rules string
		want       []string
	}{
		{"needs in their order", "a: d b c\n\t$@\nb c d:\n\t$@\n", []string{"d", "b", "c", "a"}},
		{"each with all its needs", "a: b c\n\t$@\nb: d\n\t$@\nc: e\n\t$@\nd e:\n\t$@\n", []string{"d", "b", "e", "c", "a"}},
		{"each once", "a: b c b\n\t$@\nb: d\n\t$@\nc: d b\n\t$@\nd:\n\t$@\n", []string{"d", "b", "c", "a"}},
		{"needs of several rules", "a: d\na: c\n\t$@ $^\na: b d\nb c d:\n\t$@\n", []string{"d", "c", "b", "a d c b"}},
		{"needs of several targets", "a b: c\na: b\n\t$@ $^\nb: d\n\t$@ $^\nc d:\n\t$@\n", []string{"c", "d", "b c d", "a c b"}},
		{"a need twice", "a: c b c b\n\t$^|$<\nb c:\n\t$@\n", []string{"c", "b", "c b|c"}},
		{"what is not wanted", "a: b\n\t$@\nb:\n\t$@\nc: a\n\t$@ $x\n", []string{"b", "a"}},
		{"a target without needs and commands", "a: b\n\t$@\nb:\n", []string{"a"}},
		{"commands with other rules ahead and behind", "a: b\na: c\n\tgo $^\na: d\nb c d:\n", []string{"go b c d"}},
	} {
		wantCommands(t, c.why, rulesAnd(c.rules), "", c.want...)
	}
	for _, c := range []struct {
		why, rules, goal string
		errno            api.Errno
	}{
		{"itself", "a: a\n", "", api.ErrCycle},
		{"itself, a file", "R: R\n", "", api.ErrCycle},
		{"itself, phony", ".PHONY: a\na: a\n", "", api.ErrCycle},
		{"around", "a: b\nb: c\nc: a\n", "", api.ErrCycle},
		{"around, from elsewhere", "q: a\na: b\nb: c\nc: b\n", "", api.ErrCycle},
		{"twice is not around", "a: b c\nb: c\nc:\n", "", api.OK},
		{"around what is not wanted", "q:\na: b\nb: a\n", "", api.OK},
		{"one of several targets", "a b: b\n", "", api.ErrCycle},
		{"a need without a rule", "a: b\n", "", api.ErrRule},
		{"the first error: no rule", "a: b\nb: c a\n", "", api.ErrRule},
		{"the first error: around", "a: b\nb: a c\n", "", api.ErrCycle},
		{"the first error, in the needs' order", "a: b c\nb:\nc: a none\n", "", api.ErrCycle},
		{"the first error, in the needs' order", "a: none b\nb: a\n", "", api.ErrRule},
		{"a need's needs come ahead of the next need", "a: b none\nb: c\nc: a\n", "", api.ErrCycle},
		{"ahead of what expanding would tell", "a: b\n\t$x\n", "", api.ErrRule},
	} {
		wantErrno(t, c.why, rulesAnd(c.rules), c.goal, c.errno, 0)
	}
}

func TestCompileManyNodes(t *testing.T) {
	wide := func(n int) string { return "a:" + words("k", n-1) + "\n.PHONY:" + words("k", n-1) + "\n" }
	for _, c := range []struct {
		why, rules string
		errno      api.Errno
		line       int
	}{
		{"100", wide(100), api.OK, 0},
		{"101", wide(101), api.ErrSize, 0},
		{"300", wide(300), api.ErrSize, 0},
		{"no rule behind 101", "a: b none\nb:" + words("k", 150) + "\n.PHONY:" + words("k", 150) + "\n", api.ErrRule, 0},
		{"a cycle behind 101", "a: b a\nb:" + words("k", 150) + "\n.PHONY:" + words("k", 150) + "\n", api.ErrCycle, 0},
		{"ahead of what expanding would tell", "a:" + words("k", 100) + "\n\t$x\n.PHONY:" + words("k", 100) + "\n", api.ErrSize, 0},
		{"100, and expanding", "a:" + words("k", 99) + "\n\t$x\n.PHONY:" + words("k", 99) + "\n", api.ErrSyntax, 2},
		{"nodes that are not wanted", "a:\nb:" + words("k", 300) + "\n", api.OK, 0},
	} {
		wantErrno(t, c.why, rulesAnd(c.rules), "", c.errno, c.line)
	}
}

func TestCompileManyCommands(t *testing.T) {
	many := func(n int) string { return strings.Repeat("\tgo\n", n) }
	for _, c := range []struct {
		why, rules string
		errno      api.Errno
		line       int
	}{
		{"500", "a:\n" + many(500), api.OK, 0},
		{"501", "a:\n" + many(501), api.ErrSize, 0},
		{"5000", "a:\n" + many(5000), api.ErrSize, 0},
		{"500 of two nodes", "a: b\n" + many(250) + "b:\n" + many(250), api.OK, 0},
		{"501 of two nodes", "a: b\n" + many(250) + "b:\n" + many(251), api.ErrSize, 0},
		{"501 of one rule", "a: b c\nb c:\n" + many(250) + "a:\n\tgo\n", api.ErrSize, 0},
		{"500 of one rule", "a: b c\nb c:\n" + many(250), api.OK, 0},
		{"those of which nothing is left", "a:\n" + strings.Repeat("\t$(E)\n\t$(E) \t$(E)\n", 300) + many(500), api.OK, 0},
		{"those that are not wanted", "a:\n" + many(500) + "b:\n" + many(500), api.OK, 0},
		{"an error of expanding behind them", "a:\n" + many(600) + "\t$x\n", api.ErrSyntax, 602},
		{"an error of expanding in the last node", "a: b\n\t$(A)\nb:\n" + many(600) + "A = $(A)\n", api.ErrLoop, 2},
		{"the first error in the nodes' order", "A = $(A)\na: b\n\t$x\nb:\n\tgo\n\t$(A)\n", api.ErrLoop, 6},
		{"the first error in the commands' order", "A = $(A)\na:\n\t$(A)\n\t$x\n", api.ErrLoop, 3},
	} {
		wantErrno(t, c.why, rulesAnd(c.rules), "", c.errno, c.line)
	}
	files := included(rulesAnd("include I\n"), "I", "\n\na:\n\n\t$x\n")
	wantErrno(t, "in its own text", files, "", api.ErrSyntax, 5)
	wantCommands(t, "other bytes are no blanks", rulesAnd("a:\n\t\r\n\t\v\f\n\t\xc2\xa0\n"), "", "\r", "\v\f", "\xc2\xa0")
	all := rulesAnd("b: a\n\tb\na:\n" + many(499))
	plan := mustCompile(t, "500 of two nodes", all, "b")
	if got := mustRun(t, plan, []api.File{{Path: "a"}}, nil, 0); !slices.Equal(got.Commands, []string{"b"}) {
		t.Errorf("P5: 499 are left out: %d are given", len(got.Commands))
	}
	if got := mustRun(t, plan, nil, nil, 0); len(got.Commands) != 500 || got.Clock != 500 {
		t.Errorf("P5: all 500 are given: %d", len(got.Commands))
	}
	wantCommands(t, "blanks", rulesAnd("E =\na:\n\t$(E)\n\t$(E) \t \n\t $(E)x$(E) \n\t.\n"), "", "x ", ".")
}

// doneCase: a plan of rules, run in a world that need not be that in which it was made.
type doneCase struct {
	why, rules string
	made       []string
	files      []api.File
	effects    []api.Effect
	want       api.Result
}

func TestCompileAndRun(t *testing.T) {
	at := func(path string, time int) api.File { return api.File{Path: path, Time: time} }
	writes := func(command string, exit int, paths ...string) api.Effect {
		e := api.Effect{Command: command, Exit: exit}
		for _, path := range paths {
			e.Writes = append(e.Writes, api.File{Path: path, Time: 99})
		}
		return e
	}
	chain := "a: b\n\ta\nb: c\n\tb\n"
	for _, c := range []doneCase{
		{"all are there", chain, []string{"c"}, []api.File{at("a", 1), at("b", 1), at("c", 1)}, nil,
			result(nil, []api.File{at("a", 1), at("b", 1), at("c", 1)}, 0, 5)},
		{"nothing is there", chain, []string{"c"}, nil, nil,
			result([]string{"b", "a"}, nil, 0, 7)},
		{"the goal is not there", chain, []string{"c"}, []api.File{at("b", 1), at("c", 1)}, nil,
			result([]string{"a"}, []api.File{at("b", 1), at("c", 1)}, 0, 6)},
		{"a file without a rule is gone: it was stale", chain, []string{"c"}, []api.File{at("a", 9), at("b", 9)}, nil,
			result([]string{"b", "a"}, []api.File{at("a", 9), at("b", 9)}, 0, 7)},
		{"the need of a need is newer", chain, []string{"c"}, []api.File{at("a", 9), at("b", 1), at("c", 2)}, nil,
			result([]string{"b", "a"}, []api.File{at("a", 9), at("b", 1), at("c", 2)}, 0, 7)},
		{"the need of a need is newer than the goal alone", chain, []string{"c"}, []api.File{at("a", 1), at("b", 5), at("c", 5)}, nil,
			result([]string{"a"}, []api.File{at("a", 1), at("b", 5), at("c", 5)}, 0, 6)},
		{"as old is not newer", chain, []string{"c"}, []api.File{at("a", 5), at("b", 5), at("c", 5)}, nil,
			result(nil, []api.File{at("a", 5), at("b", 5), at("c", 5)}, 0, 5)},
		{"times at int's ends", chain, []string{"c"}, []api.File{at("a", math.MinInt), at("b", math.MaxInt), at("c", math.MaxInt)}, nil,
			result([]string{"a"}, []api.File{at("a", math.MinInt), at("b", math.MaxInt), at("c", math.MaxInt)}, 0, 6)},
		{"times below 0", chain, []string{"c"}, []api.File{at("a", -2), at("b", -3), at("c", -3)}, nil,
			result(nil, []api.File{at("a", -2), at("b", -3), at("c", -3)}, 0, 5)},
		{"newer at that moment", "a: b c\n\ta\nb:\n\tb\nc:\n", nil, []api.File{at("a", 1), at("b", 1), at("c", 1)}, nil,
			result(nil, []api.File{at("a", 1), at("b", 1), at("c", 1)}, 0, 5)},
		{"a file that another's command writes is newer then", "a: p b\n\ta\np:\n\tp\nb: c\n\tb\nc:\n", nil, []api.File{at("a", 1), at("b", 1), at("c", 1)}, []api.Effect{writes("p", 0, "c")},
			result([]string{"p", "b", "a"}, []api.File{at("a", 1), at("b", 1), at("c", 6)}, 0, 8)},
		{"a file that another's command writes is there then", "a: p b\n\ta\np:\n\tp\nb:\n\tb\n", nil, nil, []api.Effect{writes("p", 0, "b")},
			result([]string{"p", "a"}, []api.File{at("b", 6)}, 0, 7)},
		{"a need that was stale, and is no newer", "a: b\n\ta\nb:\n\tb\n", nil, []api.File{at("a", 50)}, []api.Effect{writes("b", 0, "b")},
			result([]string{"b", "a"}, []api.File{at("a", 50), at("b", 6)}, 0, 7)},
		{"a need that was stale, without commands", "a: b\n\ta\nb:\n", nil, []api.File{at("a", 50)}, nil,
			result([]string{"a"}, []api.File{at("a", 50)}, 0, 6)},
		{"a need that is written later is not looked at again", "a: b p\n\ta\nb: c\n\tb\np:\n\tp\nc:\n", nil, []api.File{at("a", 9), at("b", 9), at("c", 9), at("p", 9)}, nil,
			result(nil, []api.File{at("a", 9), at("b", 9), at("c", 9), at("p", 9)}, 0, 5)},
		{"phony", ".PHONY: b\na: b\n\ta\nb:\n\tb\n", nil, []api.File{at("a", 9), at("b", 1)}, nil,
			result([]string{"b", "a"}, []api.File{at("a", 9), at("b", 1)}, 0, 7)},
		{"the goal phony", ".PHONY: a\na: b\n\ta\nb:\n\tb\n", nil, []api.File{at("a", 9), at("b", 1)}, nil,
			result([]string{"a"}, []api.File{at("a", 9), at("b", 1)}, 0, 6)},
		{"phony without a rule", ".PHONY: b\na: b\n\ta\n", nil, []api.File{at("a", 9), at("b", 1)}, nil,
			result([]string{"a"}, []api.File{at("a", 9), at("b", 1)}, 0, 6)},
		{"phony far below", ".PHONY: d\na: b\n\ta\nb: c\nc: d\nd:\n", nil, []api.File{at("a", 9), at("b", 8), at("c", 7), at("d", 1)}, nil,
			result([]string{"a"}, []api.File{at("a", 9), at("b", 8), at("c", 7), at("d", 1)}, 0, 6)},
		{"an exit", chain, []string{"c"}, nil, []api.Effect{writes("b", 3, "x")},
			result([]string{"b"}, []api.File{at("x", 6)}, 3, 6)},
		{"an exit below 0, in the midst of a node", "a:\n\t1\n\t2\n\t3\n", nil, nil, []api.Effect{writes("2", -1)},
			result([]string{"1", "2"}, nil, -1, 7)},
		{"an exit of what is not given", chain, []string{"c"}, []api.File{at("b", 1), at("c", 1)}, []api.Effect{writes("b", 3)},
			result([]string{"a"}, []api.File{at("b", 1), at("c", 1)}, 0, 6)},
		{"one command of several nodes", "a: b c\n\tgo\nb c:\n\tgo\n", nil, []api.File{at("c", 1)}, nil,
			result([]string{"go", "go"}, []api.File{at("c", 1)}, 0, 7)},
		{"a command that is a node's name", "a: b\n\tb\nb:\n\ta\n", nil, []api.File{at("b", 9)}, []api.Effect{writes("b", 0, "a")},
			result([]string{"b"}, []api.File{at("a", 6), at("b", 9)}, 0, 6)},
		{"its commands are all given, whatever they write", "a:\n\t1\n\t2\n", nil, nil, []api.Effect{writes("1", 0, "a")},
			result([]string{"1", "2"}, []api.File{at("a", 6)}, 0, 7)},
		{"a pattern is kept when its files are gone", "%.o: %.c\n\tcc $<\nall: a.o\n\tld\n", []string{"a.c"}, []api.File{at("a.o", 3), at("all", 4)}, nil,
			result([]string{"cc a.c", "ld"}, []api.File{at("a.o", 3), at("all", 4)}, 0, 7)},
	} {
		plan := mustCompile(t, c.why, rulesAnd(c.rules, c.made...), "")
		if got := mustRun(t, plan, c.files, c.effects, 5); !sameResult(got, c.want) {
			t.Errorf("P5: %s: %+v, want %+v", c.why, got, c.want)
		}
	}
}

// A plan as large as there are limits: each of 100 nodes needs all those ahead of it, and has 5 commands.
func TestCompileLargestPlans(t *testing.T) {
	var rules strings.Builder
	for i := range 60 {
		from, to := i*100/60, (i+1)*100/60
		targets := ""
		for k := from; k < to; k++ {
			targets += " n" + strconv.Itoa(k)
		}
		rules.WriteString(targets + ":" + words("n", from) + "\n" + strings.Repeat("\t$@ "+strings.Repeat("x", 1990)+"\n", 4) + "\tlast of $@\n")
	}
	rules.WriteString("n99:" + words("n", 99) + "\n")
	files := rulesAnd(rules.String())
	for i := range 100 {
		files = append(files, api.File{Path: "n" + strconv.Itoa(i), Time: i})
	}
	nodes, _, _ := modelCompile(files, "R", "n99")
	plan := mustCompile(t, "100 nodes, 500 commands", files, "n99")
	if len(nodes) != 100 || len(nodes[99].needs) != 99 {
		t.Fatalf("%d nodes, %d needs", len(nodes), len(nodes[99].needs))
	}
	r := rand.New(rand.NewSource(3))
	names, _ := namesOf(nodes)
	for range 30 {
		other := slices.Clone(files)
		for range r.Intn(4) {
			other[1+r.Intn(100)].Time = r.Intn(300) - 100
		}
		if r.Intn(2) == 0 {
			other = slices.Delete(other, 40, 41+r.Intn(40))
		}
		var effects []api.Effect
		for _, name := range names {
			effects = append(effects, api.Effect{Command: "last of " + name, Writes: []api.File{{Path: name}}})
		}
		effects[r.Intn(100)].Exit = r.Intn(2)
		compareDone(t, plan, nodes, other, effects, 100)
	}
	compareDone(t, plan, nodes, nil, nil, 0)
	compareDone(t, plan, nodes, files, nil, 0)
}

// Names by files may be longer than any text: a plan has no room for those of more than two bytes' bytes.
func TestCompileLongNames(t *testing.T) {
	tail := strings.Repeat("x", 1998)
	name := "a"
	files := rulesAnd("%: %" + tail + "\n\tgo\n")
	for len(name)+len(tail) < 1<<16 {
		name += tail
		files = append(files, api.File{Path: name})
	}
	plan := mustCompile(t, "long names", files, "a")
	nodes, _, _ := modelCompile(files, "R", "a")
	compareDone(t, plan, nodes, files, nil, 0)
	compareDone(t, plan, nodes, nil, nil, 0)
	files = append(files, api.File{Path: name + tail})
	wantErrno(t, "too long a name", files, "a", api.ErrSize, 0)
}

func TestCompileLeavesItsArguments(t *testing.T) {
	make1 := func() []api.File {
		return wideFiles(included(rulesAnd("A = $@\ninclude I J\nb a:\n\tgo $(A)\n", "b 2", "b 1"), "I", "a: b c\n", "J", "c:\n\t$^\n", "R", "not this")...)
	}
	files, same := make1(), make1()
	first := mustCompile(t, "a list with spare room", files, "")
	if !slices.Equal(files[:cap(files)], same[:cap(same)]) {
		t.Errorf("P1: the files are changed: %+v", files[:cap(files)])
	}
	if got := mustCompile(t, "the same without it", slices.Clip(same), ""); got != first {
		t.Errorf("P1: %x, want %x", got, first)
	}
	for _, rules := range []string{"spare1:\n\tx\n", "%: spare1\n\tx\na:\n"} {
		plan := mustCompile(t, "spare room holds no files", wideFiles(rulesAnd(rules)...), "")
		if got := mustRun(t, plan, nil, nil, 0); len(got.Files) != 0 {
			t.Errorf("P1: %+v", got)
		}
	}
	wantErrno(t, "spare room holds no files", wideFiles(rulesAnd("a: spare1\n")...), "", api.ErrRule, 0)
}

func TestCompileTheFirstFileCounts(t *testing.T) {
	files := included(rulesAnd("include I\n"), "I", "a:\n\tfirst\n", "I", "a:\n\tsecond\n", "R", "$")
	wantCommands(t, "texts", files, "", "first")
}

func TestCompileAnswersTheSameEachTime(t *testing.T) {
	rules := "A = 1\nB = $(A)\n.PHONY:" + words("p", 30) + "\nall:" + words("n", 40) + words("p", 30) + "\n\t$^\n" + strings.TrimSpace(words("n", 20)) + ":\n\t$@ $(B)\n%: p1 p2\n\tno\nn%: R S\n\t$* $@\n"
	files := rulesAnd(rules, "S")
	want := mustCompile(t, "many names", files, "")
	for range 100 {
		if got := mustCompile(t, "many names", files, ""); got != want {
			t.Fatalf("P1: %x, want %x", got, want)
		}
		slices.Reverse(files)
	}
}

func TestCompileAnyBytes(t *testing.T) {
	r := rand.New(rand.NewSource(5))
	pieces := []string{"a", "b", "A", "include", "include I", " ", "\t", "\n", "\n\t", "\\", "\\\n", "#", ":", "=", ":=", ": ", "$", "$$", "$(", "$(A)", ")", "%", ".PHONY:", "$@", "$^", "\x00", "\xff", "é"}
	text := func() string {
		var b strings.Builder
		for range r.Intn(20) {
			b.WriteString(pieces[r.Intn(len(pieces))])
		}
		return b.String()
	}
	for range 30000 {
		files := included(rulesAnd("a:"+text(), "b"), "I", text(), text(), text())
		compareCompile(t, r, files, "R", pieces[r.Intn(len(pieces))])
		bytes := make([]byte, r.Intn(40))
		r.Read(bytes)
		compareCompile(t, r, []api.File{{Path: "R", Text: "a: " + string(bytes)}}, "R", "")
		compareCompile(t, r, []api.File{{Path: string(bytes), Text: "%: R\n"}, {Path: "R", Text: "a:\n\t" + string(bytes)}}, "R", string(bytes))
	}
}

func TestCompileOfLongTexts(t *testing.T) {
	const many = 1 << 18
	start := time.Now()
	wantErrno(t, "many lines", rulesAnd(strings.Repeat("A = 1\nB := $(A)\n", many)+"a:\n"), "", api.OK, 0)
	wantErrno(t, "many commands", rulesAnd("a:\n"+strings.Repeat("\tgo $@\n", many)), "", api.ErrSize, 0)
	wantErrno(t, "many signs", rulesAnd(strings.Repeat("a", 1000)+":\n\t"+strings.Repeat("$@", many)+"\n"), "", api.ErrSize, 2)
	wantErrno(t, "many signs within", rulesAnd("A = "+strings.Repeat("$<", many)+"\na:\n\t"+strings.Repeat("$(A)", 300)+"\n"), "", api.OK, 0)
	wantErrno(t, "many $$", rulesAnd("A := "+strings.Repeat("$$", many)+"\n"), "", api.ErrSize, 1)
	wantErrno(t, "many words", rulesAnd("include"+strings.Repeat(" R", many)+"\n"), "", api.ErrSize, 1)
	wantErrno(t, "a long goal", rulesAnd("%:\n\tgo\n"), strings.Repeat("g", many), api.ErrSize, 0)

	wantErrno(t, "many nodes with many needs", rulesAnd(layers(60)), "A0", api.ErrSize, 0)
	lacking := strings.Repeat("%:"+words("B", 400)+" none\n\tgo\n%:"+words("B", 400)+" none%\n\tgo\n", 15)
	wantErrno(t, "many nodes, and patterns with many needs", rulesAnd(layers(30)+lacking), "A0", api.ErrSize, 0)

	files := register(17)
	wantErrno(t, "from file to file, around", files, files[2].Path, api.ErrCycle, 0)
	wantErrno(t, "from file to file, but for the last", slices.Delete(files, 1+1<<16, 2+1<<16), files[2].Path, api.ErrSize, 0)
	if spent := time.Since(start); spent > time.Minute {
		t.Errorf("P1: long texts took %v", spent)
	}
}

// layers: so many rules, each with 400 targets, all of which need the 400 targets of the next one.
func layers(count int) string {
	var b strings.Builder
	name := func(i int) string { return string([]byte{byte('A' + i)}) }
	for i := range count {
		b.WriteString(words(name(i), 400) + ":" + words(name(i+1), 400) + "\n")
	}
	return b.String() + ".PHONY:" + words(name(count), 400) + "\n"
}

// register: patterns that lead from each file of so many binary digits, but that of zeros, to another one, through all of them:
// the first digit goes, and its sum with the fourth comes at the end. (It is so with 17 digits.)
func register(digits int) []api.File {
	var rules strings.Builder
	for p := range 16 {
		bits := strconv.FormatInt(int64(p+16), 2)[1:]
		sum := (p>>3 ^ p) & 1
		rules.WriteString(bits + "%: " + bits[1:] + "%" + strconv.Itoa(sum) + "\n\tgo\n")
	}
	files := rulesAnd(rules.String())
	for i := range 1 << digits {
		files = append(files, api.File{Path: strconv.FormatInt(int64(i+1<<digits), 2)[1:]})
	}
	return files
}
