package maker_test

import (
	"slices"
	"strconv"
	"strings"
	"testing"

	"maker/api"
	"maker/maker"
)

// rulesAnd: the rules R, and files that are there: "a", or "a 5" with its time.
func rulesAnd(rules string, there ...string) []api.File {
	files := []api.File{{Path: "R", Text: rules}}
	for _, s := range there {
		name, at, _ := strings.Cut(s, " ")
		n, _ := strconv.Atoi(at)
		files = append(files, api.File{Path: name, Time: n})
	}
	return files
}

// included: files with texts, a name and a text by turns.
func included(files []api.File, more ...string) []api.File {
	for i := 0; i < len(more); i += 2 {
		files = append(files, api.File{Path: more[i], Text: more[i+1]})
	}
	return files
}

// mustCompile tells the plan of rules that have no error.
func mustCompile(t *testing.T, why string, files []api.File, goal string) string {
	t.Helper()
	plan, errno, line := maker.Compile(files, "R", goal)
	if errno != api.OK || line != 0 {
		t.Fatalf("P5: %s: %d, line %d", why, errno, line)
	}
	if maker.Check(plan) != api.OK || !modelSound(plan) {
		t.Fatalf("P5: %s: the plan %x is not sound", why, plan)
	}
	return plan
}

// wantCommands holds what a plan gives, in the world in which it was made, against commands.
func wantCommands(t *testing.T, why string, files []api.File, goal string, want ...string) {
	t.Helper()
	got := mustRun(t, mustCompile(t, why, files, goal), files, nil, 10)
	if !slices.Equal(got.Commands, want) || got.Exit != 0 || got.Clock != 10+len(want) {
		t.Errorf("P5: %s: %q, exit %d, clock %d, want %q", why, got.Commands, got.Exit, got.Clock, want)
	}
}

func wantErrno(t *testing.T, why string, files []api.File, goal string, errno api.Errno, line int) {
	t.Helper()
	plan, e, l := maker.Compile(files, "R", goal)
	if e != errno || l != line {
		t.Errorf("P5: %s: %d, line %d, want %d, line %d", why, e, l, errno, line)
	}
	if (plan == "") != (e != api.OK) {
		t.Errorf("P1: %s: %d, and the plan %x", why, e, plan)
	}
}

const documentRules = "CC = cc $(F)\nF := -o\nall : a.o b\n%.o : %.c\n\t$(CC) $@ $<\nb :\n\tmk $@\n"

func TestCompileOfTheDocument(t *testing.T) {
	files := rulesAnd(documentRules, "a.c 5", "a.o 3")
	wantCommands(t, "the example", files, "", "cc -o a.o a.c", "mk b")
	wantCommands(t, "not newer", rulesAnd(documentRules, "a.c 5", "a.o 5"), "", "mk b")
	plan := mustCompile(t, "the example", files, "")
	got := mustRun(t, plan, files, []api.Effect{{Command: "cc -o a.o a.c", Exit: 3}}, 10)
	if !slices.Equal(got.Commands, []string{"cc -o a.o a.c"}) || got.Exit != 3 || got.Clock != 11 {
		t.Errorf("P5: %+v", got)
	}
	with := func(old, new string) []api.File {
		return rulesAnd(strings.Replace(documentRules, old, new, 1), "a.c 5", "a.o 3")
	}
	wantErrno(t, "the goal x", files, "x", api.ErrRule, 0)
	wantErrno(t, "F = $(CC)", with("F := -o", "F = $(CC)"), "", api.ErrLoop, 5)
	wantErrno(t, "all : a.o all", with("a.o b", "a.o all"), "", api.ErrCycle, 0)
	wantErrno(t, "b", with("b :", "b"), "", api.ErrSyntax, 6)
}

func TestCompileExpands(t *testing.T) {
	for _, c := range []struct{ why, names, command, want string }{
		{"nothing to expand", "", "go #on: =% \\ )( ", "go #on: =% \\ )( "},
		{"$$", "", "$$$$x$$(A)$$@", "$$x$(A)$@"},
		{"a fixed name", "A := 1 2\n", "[$(A)]", "[1 2]"},
		{"a late name", "A = 1 2\n", "[$(A)$(A)]", "[1 21 2]"},
		{"no name", "A = 1\n", "[$(B)$(a)$(AA)]", "[]"},
		{"names without a value", "A =\nB :=\n", "[$(A)$(B)]", "[]"},
		{"the longest name", "abcdefghijklmnoP = 1\n", "$(abcdefghijklmnoP)", "1"},
		{"digits and _", "_ = 1\n9 = 2\n", "$(_)$(9)", "12"},
		{"late within late", "A = a$(B)c\nB = $(C)\nC = b\n", "$(A)", "abc"},
		{"late within fixed", "B = 1\nA := $(B)\nB = 2\n", "$(A)$(B)", "12"},
		{"fixed within late", "B := 1\nA = $(B)\nB := 2\n", "$(A)", "2"},
		{"the value that it has in the end", "A = 1\n", "$(A) $(Z)", "1 z"},
		{"a fixed value is not expanded again", "A := $$(B) $$@ $$\nB = 1\n", "$(A)", "$(B) $@ $"},
		{"a late value's $$ is one $", "A = $$(B)\nB = 1\n", "$(A)", "$(B)"},
		{"a value's end and what stands behind make no reference", "A = $$\nB := $$\n", "$(A)(C) $(B)@", "$(C) $@"},
		{"a fixed name by itself", "A = 1\nA := $(A)2\nA := $(A)3\n", "$(A)", "123"},
		{"fixed, then late", "A := 1\nA = 2$(B)\nB = 3\n", "$(A)", "23"},
		{"late, then fixed", "A = $(A)\nA := 2\n", "$(A)", "2"},
		{"one name twice, not within itself", "A = $(B)$(B)\nB = $(C)\nC = c\n", "$(A)$(B)$(A)", "ccccc"},
		{"signs", "", "$@|$<|$^|$*", "n.x|n.y|n.y e f|n"},
		{"signs within a late value", "A = $@$(B)\nB = $<$*\n", "[$(A)$^]", "[n.xn.ynn.y e f]"},
		{"signs right behind one another", "", "$@$@$$$@", "n.xn.x$n.x"},
		{"a late value has the signs of where it stands", "A = $@\n", "$(A)", "n.x"},
		{"bytes of all kinds", "A = \x00\xff\r\n", "$(A)é\v$(A)", "\x00\xff\ré\v\x00\xff\r"},
		{"blanks within stay", "A = a \t b\n", "  $(A)\t $(E) c ", "a \t b\t  c "},
		{"blanks at the beginning, by an empty value", "", "$(E) c", " c"},
		{"a value ends where a # stands", "A = a # b\n", "$(A)#", "a#"},
		{"what is not asked for may be wrong", "A = $x\nB = $(B)\nC = " + strings.Repeat("c", 3000) + "\n", "go", "go"},
	} {
		rules := c.names + "%.x: %.y e\n\t" + c.command + "\nn.x: f n.y\nZ = z\n"
		wantCommands(t, c.why, rulesAnd(rules, "n.y", "e", "f"), "n.x", c.want)
	}
}

func TestCompileExpandsSides(t *testing.T) {
	wantCommands(t, "targets and needs", rulesAnd("A = a b\nB := c  d\n$(A)$(B): x$(A) $(B)y\n\t$@: $^\nxa b c dy:\n"), "", "a: xa b c dy")
	wantCommands(t, "the second target", rulesAnd("A = a b\n$(A)c: x\n\t$@: $^\nx:\n"), "bc", "bc: x")
	wantCommands(t, "a value's : and = and # are parts of words", rulesAnd("H = :=\n$(H): b\n\t$@ $^\nb:\n"), ":=", ":= b")
	wantCommands(t, "a rule's side with $$", rulesAnd("$$a: $$$$\n\t$@ $^\n$$$$:\n"), "$a", "$a $$")
	wantCommands(t, "a % by a name", rulesAnd("P = %\na$(P): b$(P)\n\t$* $<\n"+"bx:\n"), "ax", "x bx")
	wantCommands(t, "a tab between words", rulesAnd("a\tb:\tc\t d\n\t$^\nc d:\n"), "b", "c d")
	wantCommands(t, "names as they are at the rule's line", rulesAnd("A = b\na: $(A)\n\t$^ $(A)\nA = c\nb c:\n"), "", "b c")
	wantCommands(t, "an include by a name", included(rulesAnd("I = 1 J\ninclude I$(I)\n"), "I1", "A = a\n", "J", "$(A):\n\tgo\n"), "", "go")
	wantCommands(t, "an include with $$", included(rulesAnd("include $$\n"), "$", "a:\n\tgo\n"), "", "go")
}

func TestCompileOtherSigns(t *testing.T) {
	bad := []string{"$", "$ ", "$x", "$A", "$(", "$(A", "$()", "$( A)", "$(A )", "$(A-)", "$(A B)", "$(A$(B))", "$)", "$\t(A)", "$1", "$%", "$?", "$+", "${A}", "$\x00", "$\xff", "$é", "$(é)", "$(abcdefghijklmnopq)", "$(A\xff)", "$$$", "$(A)$"}
	for _, text := range bad {
		wantErrno(t, "fixed: "+text, rulesAnd("A = 1\nB := b"+text+"\nq:\n"), "", api.ErrSyntax, 2)
		wantErrno(t, "a target: "+text, rulesAnd("A = 1\n\n"+text+": b\n"), "", api.ErrSyntax, 3)
		wantErrno(t, "a need: "+text, rulesAnd("A = 1\n\nb: "+text+"\n"), "", api.ErrSyntax, 3)
		wantErrno(t, "an include: "+text, rulesAnd("A = 1\n\ninclude "+text+"\n"), "", api.ErrSyntax, 3)
		wantErrno(t, "command: "+text, rulesAnd("A = 1\nq:\n\tfine\n\tgo "+text+"\n"), "", api.ErrSyntax, 4)
		wantErrno(t, "within: "+text, rulesAnd("A = 1\nB = "+text+"\nq:\n\t$(B)\n"), "", api.ErrSyntax, 4)
	}
	for _, sign := range []string{"$@", "$<", "$^", "$*"} {
		wantErrno(t, "fixed: "+sign, rulesAnd("a:\nA := "+sign+"\n"), "", api.ErrSyntax, 2)
		wantErrno(t, "a target: "+sign, rulesAnd("\na"+sign+": b\n"), "", api.ErrSyntax, 2)
		wantErrno(t, "a need: "+sign, rulesAnd("\na: b "+sign+"\n"), "", api.ErrSyntax, 2)
		wantErrno(t, "a pattern's need: "+sign, rulesAnd("\n%: %b "+sign+"\n"), "", api.ErrSyntax, 2)
		wantErrno(t, "an include: "+sign, rulesAnd("\ninclude "+sign+"\n"), "", api.ErrSyntax, 2)
		wantErrno(t, "a late value, in a need: "+sign, rulesAnd("A = "+sign+"\na: $(A)\n"), "", api.ErrSyntax, 2)
		wantErrno(t, "a late value, in a fixed one: "+sign, rulesAnd("A = "+sign+"\nB := $(A)\n"), "", api.ErrSyntax, 2)
		wantErrno(t, "a late value that is not asked for: "+sign, rulesAnd("A = "+sign+"\na:\n"), "", api.OK, 0)
	}
}

func TestCompileLoops(t *testing.T) {
	for _, c := range []struct {
		why, rules string
		errno      api.Errno
		line       int
	}{
		{"itself", "A = x$(A)\na: $(A)\n", api.ErrLoop, 2},
		{"itself, in a fixed value", "A = x$(A)\nB := $(A)\n", api.ErrLoop, 2},
		{"itself, in an include", "A = x$(A)\ninclude $(A)\n", api.ErrLoop, 2},
		{"itself, in a target", "A = x$(A)\n$(A): b\n", api.ErrLoop, 2},
		{"itself, in a command", "A = x$(A)\na:\n\tgo\n\t$(A)\n", api.ErrLoop, 4},
		{"around three", "A = $(B)\nB = $(C)\nC = $(A)\na:\n\t$(B)\n", api.ErrLoop, 5},
		{"the second time within", "A = $(B)$(C)\nB = b\nC = $(B)$(A)\na:\n\t$(A)\n", api.ErrLoop, 5},
		{"not asked for", "A = $(A)\na:\n\tgo\n", api.OK, 0},
		{"a command that is not wanted", "A = $(A)\na:\nb:\n\t$(A)\n", api.OK, 0},
		{"side by side is no loop", "A = $(B)$(B)\nB = b\na:\n\t$(A)$(A)$(B)\n", api.OK, 0},
		{"through a fixed value there is none", "A = a\nB := $(A)\nA = $(B)\na:\n\t$(A)$(B)\n", api.OK, 0},
		{"a syntax error ahead of it", "A = $x$(A)\na: $(A)\n", api.ErrSyntax, 2},
		{"a syntax error behind it", "A = $(A)$x\na: $(A)\n", api.ErrLoop, 2},
		{"the left side first", "A = $(A)\n$(A): $x\n", api.ErrLoop, 2},
		{"the right side then", "A = $(A)\n$x: $(A)\n", api.ErrSyntax, 2},
	} {
		wantErrno(t, c.why, rulesAnd(c.rules), "", c.errno, c.line)
	}
}

func TestCompileReferences(t *testing.T) {
	refs := func(n int) string { return strings.Repeat("$(N)", n) }
	long := func(n int) string { return strings.Repeat("$(abcdefghijklmnop)", n) }
	for _, c := range []struct {
		why, rules string
		errno      api.Errno
		line       int
	}{
		{"300 to nothing", "A := " + refs(300) + "\nq:\n", api.OK, 0},
		{"301 to nothing", "A := " + refs(301) + "\nq:\n", api.ErrSize, 1},
		{"300 of long names", "A := " + long(300) + "\nq:\n", api.OK, 0},
		{"300 to a fixed name", "N := n\nA := " + refs(300) + "\nq:\n", api.OK, 0},
		{"301 to a fixed name", "N := n\nA := " + refs(301) + "\nq:\n", api.ErrSize, 2},
		{"a fixed value's own are over", "N := " + refs(300) + "\nA := " + refs(300) + "\nq:\n", api.OK, 0},
		{"300 to a late name", "N = n\nA := " + refs(300) + "\nq:\n", api.OK, 0},
		{"301 to a late name", "N = n\nA := " + refs(301) + "\nq:\n", api.ErrSize, 2},
		{"150 with one within each", "N = $(M)\nA := " + refs(150) + "\nq:\n", api.OK, 0},
		{"151 with one within each", "N = $(M)\nA := " + refs(150) + "$(M)\nq:\n", api.ErrSize, 2},
		{"299 within one", "M = " + refs(299) + "\nA := $(M)\nq:\n", api.OK, 0},
		{"300 within one", "M = " + refs(300) + "\nA := $(M)\nq:\n", api.ErrSize, 2},
		{"299 within one, and one behind it", "M = " + refs(299) + "\nA := $(M)$(N)\nq:\n", api.ErrSize, 2},
		{"each side for itself", refs(300) + "a: " + refs(300) + "\n", api.OK, 0},
		{"the left side", "\n" + refs(301) + "a: b\n", api.ErrSize, 2},
		{"the right side", "\na: " + refs(301) + "\n", api.ErrSize, 2},
		{"an include", "include " + refs(300) + "\nq:\n", api.OK, 0},
		{"an include", "\ninclude " + refs(301) + "\nq:\n", api.ErrSize, 2},
		{"each command for itself", "a:\n\tx" + refs(300) + "\n\ty" + refs(300) + "\n", api.OK, 0},
		{"a command", "a:\n\tx\n\ty" + refs(301) + "\n", api.ErrSize, 3},
		{"a command of which nothing is left", "a:\n\tx\n\t" + refs(301) + "\n", api.ErrSize, 3},
		{"signs and $$ are no references", "a: b\n\t" + strings.Repeat("$@", 500) + strings.Repeat("$$", 400) + refs(300) + "\nb:\n", api.OK, 0},
		{"a loop ahead of the 301st", "N = $(N)\nA := " + strings.Repeat("$(M)", 299) + "$(N)\n", api.ErrSize, 2},
		{"a loop with the 300th", "N = $(N)\nA := " + strings.Repeat("$(M)", 298) + "$(N)\n", api.ErrLoop, 2},
		{"a loop with the 301st", "N = $(N)\nA := " + strings.Repeat("$(M)", 300) + "$(N)\n", api.ErrSize, 2},
		{"no reference behind 300", "A := " + refs(300) + "$(A-)\n", api.ErrSyntax, 1},
		{"$x behind 300", "A := " + refs(300) + "$x" + refs(1) + "\n", api.ErrSyntax, 1},
		{"$x behind 301", "A := " + refs(301) + "$x\n", api.ErrSize, 1},
		{"a line's left side first", refs(301) + ": $x\n", api.ErrSize, 1},
		{"a line's left side first", "$x: " + refs(301) + "\n", api.ErrSyntax, 1},
	} {
		wantErrno(t, c.why, rulesAnd(c.rules), "", c.errno, c.line)
	}
}

func TestCompileTexts(t *testing.T) {
	x := func(n int) string { return strings.Repeat("x", n) }
	for _, c := range []struct {
		why, rules string
		errno      api.Errno
		line       int
	}{
		{"2000 bytes", "A := " + x(2000) + "\nq:\n", api.OK, 0},
		{"2001 bytes", "\nA := " + x(2001) + "\nq:\n", api.ErrSize, 2},
		{"bytes, not runes", "A := " + strings.Repeat("é", 1000) + "\nq:\n", api.OK, 0},
		{"bytes, not runes", "A := " + strings.Repeat("é", 1000) + "x\nq:\n", api.ErrSize, 1},
		{"2000 times $$", "A := " + strings.Repeat("$$", 2000) + "\nq:\n", api.OK, 0},
		{"2001 times $$", "A := " + strings.Repeat("$$", 2001) + "\nq:\n", api.ErrSize, 1},
		{"a late value", "A = " + x(2001) + "\nq:\n", api.OK, 0},
		{"a late value that is asked for", "A = " + x(2000) + "\nB := $(A)\nq:\n", api.OK, 0},
		{"a late value that is asked for", "A = " + x(2001) + "\nB := $(A)\nq:\n", api.ErrSize, 2},
		{"together 2000", "A := " + x(999) + "\nB := $(A)$(A)xx\nq:\n", api.OK, 0},
		{"together 2001", "A := " + x(999) + "\nB := $(A)$(A)xxx\nq:\n", api.ErrSize, 2},
		{"blanks count", "A := x\nB := $(A)" + strings.Repeat(" ", 1998) + "x\nq:\n", api.OK, 0},
		{"blanks count", "A := x\nB := $(A)" + strings.Repeat(" ", 1999) + "x\nq:\n", api.ErrSize, 2},
		{"the left side", x(2000) + ":\n", api.OK, 0},
		{"the left side", x(2001) + ":\n", api.ErrSize, 1},
		{"the right side", "%: " + x(2000) + "\nq:\n", api.OK, 0},
		{"the right side", "%: " + x(2001) + "\nq:\n", api.ErrSize, 1},
		{"each side for itself", x(2000) + ": q\nq:" + strings.Repeat("\t", 3000) + "\n", api.OK, 0},
		{"an include", "include " + x(2000) + "\n", api.ErrInclude, 1},
		{"an include", "include " + x(2001) + "\n", api.ErrSize, 1},
		{"a command", "q:\n\t" + x(2000) + "\n", api.OK, 0},
		{"a command", "q:\n\tx\n\t" + x(2001) + "\n", api.ErrSize, 3},
		{"a command of blanks", "A = x\nB = y\nq:\n\t$(E)" + strings.Repeat(" ", 2000) + "\n", api.OK, 0},
		{"a command of blanks", "q:\n\t$(E)" + strings.Repeat(" ", 2001) + "\n", api.ErrSize, 2},
		{"a command by signs", x(500) + ":\n\t$@$@$@$@\n", api.OK, 0},
		{"a command by signs", x(500) + ":\n\t$@$@$@$@$@\n", api.ErrSize, 2},
		{"a command by needs", "q: " + x(999) + " " + x(1000) + "\n\t$^\n" + x(999) + " " + x(1000) + ":\n", api.OK, 0},
		{"a command by needs", "q: " + x(999) + " " + x(1000) + "\n\t$^y\n" + x(999) + " " + x(1000) + ":\n", api.ErrSize, 2},
		{"other errors first", "A := " + x(2001) + "$x\n", api.ErrSyntax, 1},
		{"other errors first", "A = $(A)\nB := " + x(2001) + "$(A)\n", api.ErrLoop, 2},
		{"other errors first", "A := " + x(2001) + "$(A", api.ErrSyntax, 1},
		{"one within is done ahead of what is behind it", "A = " + x(2001) + "\nB := $(A)$x\n", api.ErrSize, 2},
		{"one within is done ahead of what is behind it", "A = $(B)$(A)\nB = " + x(2001) + "\nC := $(A)\n", api.ErrSize, 3},
		{"one within, of two halves", "A = $(H)$(H)x\nH := " + x(1000) + "\nB := $(A)$x\n", api.ErrSize, 3},
		{"one within that is as long as it may be", "A = $(H)$(H)\nH := " + x(1000) + "\nB := $(A)$x\n", api.ErrSyntax, 3},
		{"one within, other errors within it first", "A = " + x(2001) + "$x\nB := $(A)\n", api.ErrSyntax, 2},
		{"the left side is looked at ahead of the right one", x(2001) + ": $x\n", api.ErrSize, 1},
		{"the sides ahead of the words", "%%: " + x(2001) + "\n", api.ErrSize, 1},
	} {
		wantErrno(t, c.why, rulesAnd(c.rules), "", c.errno, c.line)
	}
}

func TestCompileReads(t *testing.T) {
	wantCommands(t, "the last value counts", rulesAnd("A = 1\na:\n\t$(A)\nA = 2\nA = 3\n"), "", "3")
	wantCommands(t, "nothing again", rulesAnd("A = 1\nA =\na:\n\t[$(A)]\n"), "", "[]")
	wantCommands(t, "a value ends the open rule, and the next one opens it again", rulesAnd("a:\n\tgo\nA = 1\nb:\n\ton\n"), "b", "on")
	wantCommands(t, "lines that count for nothing leave it open", rulesAnd("a:\n\n# no\n\t\n  \n\tgo\n   # no\n\ton\n"), "", "go", "on")
	wantCommands(t, "lines that go on", rulesAnd("a \\\n: b\\\n   c\n\tgo\\\n\t on\\\n\nb c:\\\n"), "", "go on ")
	wantCommands(t, "a line that goes on at the end", rulesAnd("a:\n\tgo\\\\"), "", "go")
	wantCommands(t, "no last 0a", rulesAnd("a:\n\tgo"), "", "go")
	wantCommands(t, "a # in a command stays", rulesAnd("a: # b\n\tgo # on\n"), "", "go # on")
	wantCommands(t, "commands behind commands of another", rulesAnd("a:\n\ta\nb:\n\tb\na: b\n"), "", "b", "a")
	wantCommands(t, "the first file of each name", append(rulesAnd("a:\n\tfirst\n"), rulesAnd("a:\n\tsecond\n")...), "", "first")
	wantCommands(t, "a path of another kind", included(rulesAnd("include  \t./I\n"), "./I", "a:\n\tgo\n"), "", "go")
}

func TestCompileIncludes(t *testing.T) {
	with := func(rules string) []api.File {
		return included(rulesAnd(rules), "none yet", "", "I", "A = i\ni:\n\ti $(A)\n", "J", "\ninclude K\n", "K", "\n\ninclude L\nk:\n\tk\n", "L", "\n\n\nl:\n\tl\n", "D", "include J\n", "bad", "a:\n\n\n\twhat\n$\n", "start", "\n\n\tgo\n", "end", "z:\n", "slash", "s:\n\ts \\", "self", "\n\n\ninclude self\n", "H", "A = h", "N", "include none\n", "E", "", "P", "include Q\n", "Q", "include E\n")
	}
	wantCommands(t, "one", with("include I\n"), "", "i i")
	wantCommands(t, "names go both ways", with("A = 1\ninclude I\nB = $(A)\nb:\n\t$(B)\n"), "b", "i")
	wantCommands(t, "several, in their order", with("include I H\n"), "i", "i h")
	wantCommands(t, "several, in their order", with("include H I\n"), "i", "i i")
	wantCommands(t, "names as they are then", with("A = 0\nB := $(A)\ninclude I\nC := $(A)\nA = 2\nc:\n\t$(B) $(C) $(A)\n"), "c", "0 i 2")
	wantCommands(t, "within one another", with("include J\n"), "", "l")
	wantCommands(t, "within one another, then again", with("include P P\ninclude P\nx:\n\tx\n"), "x", "x")
	wantCommands(t, "none", with("a:\ninclude $(E)\nb:\n\tb\n"), "b", "b")
	wantCommands(t, "a text without lines", with("include E\na:\n\ta\n"), "", "a")
	wantCommands(t, "a line does not go on behind the text", with("include slash E\na:\n\ta\n"), "s", "s ")
	wantCommands(t, "a rule that is open in the text, but not behind it", with("include end\na:\n\tgo\n"), "a", "go")
	for _, c := range []struct {
		why, rules string
		errno      api.Errno
		line       int
	}{
		{"no file", "a:\n\ninclude none\n", api.ErrInclude, 3},
		{"no file, the second", "a:\ninclude I none\n", api.ErrInclude, 2},
		{"the first one's errors first", "include bad none\n", api.ErrSyntax, 5},
		{"no file within", "\n\ninclude N\n", api.ErrInclude, 1},
		{"its text first", "a:\ninclude none $x\n", api.ErrSyntax, 2},
		{"a wrong line within", "include bad\n", api.ErrSyntax, 5},
		{"a wrong line behind", "include K\n\\\n\nwhat\n", api.ErrSyntax, 4},
		{"no rule is open at its beginning", "a:\ninclude start\n", api.ErrSyntax, 3},
		{"no rule is open behind it", "a:\ninclude end\n\tgo\n", api.ErrSyntax, 3},
		{"none is open behind one without words", "a:\ninclude $(E)\n\tgo\n", api.ErrSyntax, 3},
		{"none is open behind one in the next", "include end start\n", api.ErrSyntax, 3},
		{"3 within one another", "include J\nq:\n", api.OK, 0},
		{"4 within one another", "\ninclude D\nq:\n", api.ErrDeep, 3},
		{"itself", "include self\n", api.ErrDeep, 4},
		{"the rules themselves", "\ninclude R\n", api.ErrDeep, 2},
		{"4 side by side", "include E E E E\ninclude P P\nq:\n", api.OK, 0},
		{"100", "include " + strings.Repeat("E ", 100) + "\nq:\n", api.OK, 0},
		{"100 in lines of their own", strings.Repeat("include E\n", 100) + "q:\n", api.OK, 0},
		{"101 in lines of their own", strings.Repeat("include E\n", 101) + "q:\n", api.ErrSize, 101},
		{"101", "\ninclude " + strings.Repeat("E ", 101) + "\nq:\n", api.ErrSize, 2},
		{"those within count: 99", "include " + strings.Repeat("P ", 33) + "\nq:\n", api.OK, 0},
		{"those within count: 102", "\ninclude " + strings.Repeat("P ", 34) + "\nq:\n", api.ErrSize, 1},
		{"those within count: 100", "include " + strings.Repeat("E ", 97) + "J\nq:\n", api.OK, 0},
		{"those within count: 101", "include " + strings.Repeat("E ", 98) + "J\nq:\n", api.ErrSize, 3},
		{"those within count: 101, found within", "include " + strings.Repeat("E ", 99) + "J\nq:\n", api.ErrSize, 2},
		{"no file ahead of too many", "include " + strings.Repeat("E ", 100) + "none\n", api.ErrInclude, 1},
		{"too deep ahead of too many", "include " + strings.Repeat("E ", 97) + "D\n", api.ErrDeep, 3},
		{"too many ahead of too deep", "include " + strings.Repeat("E ", 98) + "D\n", api.ErrSize, 2},
		{"words without a text are not counted", strings.Repeat("include $(E)\n", 200) + "q:\n", api.OK, 0},
	} {
		wantErrno(t, c.why, with(c.rules), "", c.errno, c.line)
	}
	deepest := included(rulesAnd("include A\n"), "A", "include B\n", "B", "include C\n", "C", "\ninclude none\n")
	wantErrno(t, "no file ahead of too deep", deepest, "", api.ErrInclude, 2)
	full := included(rulesAnd("include "+strings.Repeat("E ", 97)+"A\n"), "E", "", "A", "include B\n", "B", "include C\n", "C", "\n\ninclude C\n")
	wantErrno(t, "too deep, and too many", full, "", api.ErrDeep, 3)
}
