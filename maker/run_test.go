package maker_test

import (
	"math"
	"math/rand"
	"reflect"
	"slices"
	"strings"
	"testing"

	"maker/api"
	"maker/maker"
)

func file(path, text string, time int) api.File {
	return api.File{Path: path, Text: text, Time: time}
}

func result(commands []string, files []api.File, exit, clock int) api.Result {
	return api.Result{Commands: commands, Files: files, Exit: exit, Clock: clock}
}

// mustRun runs a sound plan, and holds the answer against the model's.
func mustRun(t *testing.T, p string, files []api.File, effects []api.Effect, clock int) api.Result {
	t.Helper()
	got, errno := maker.Run(p, files, effects, clock)
	if errno != api.OK {
		t.Fatalf("Run(%x): %d", p, errno)
	}
	if want := modelRun(p, files, effects, clock); !sameResult(got, want) {
		t.Fatalf("Run(%x, %v, %v, %d) = %+v, want %+v", p, files, effects, clock, got, want)
	}
	return got
}

func TestRunConditions(t *testing.T) {
	files := []api.File{{Path: "three", Time: 3}, {Path: "five", Time: 5}, {Path: "also5", Time: 5}, {Path: "low", Time: math.MinInt}, {Path: "high", Time: math.MaxInt}, {Path: "five", Time: 1}}
	names := []string{"go", "three", "five", "also5", "low", "high", "none", "no"}
	at := func(name string) int { return slices.Index(names, name) }
	for _, c := range []struct {
		why  string
		code string
		want bool
	}{
		{"1", push(1), true},
		{"0", push(0), false},
		{"a file that is there", absent(at("three")), false},
		{"a file that is not", absent(at("none")), true},
		{"newer", newer(at("three"), at("five")), true},
		{"older", newer(at("five"), at("three")), false},
		{"as old", newer(at("five"), at("also5")), false},
		{"the same file", newer(at("five"), at("five")), false},
		{"int's ends", newer(at("low"), at("high")), true},
		{"int's ends, the other way", newer(at("high"), at("low")), false},
		{"newer than the lowest", newer(at("low"), at("three")), true},
		{"the highest is newer", newer(at("three"), at("high")), true},
		{"no first file", newer(at("none"), at("high")), false},
		{"no second file", newer(at("low"), at("none")), false},
		{"neither file", newer(at("none"), at("no")), false},
		{"a flag that is off", flag(0), false},
		{"a flag that is on", set(0) + flag(0), true},
		{"the last flag", set(255) + flag(255), true},
		{"another flag", set(254) + flag(255), false},
		{"a flag that is on twice", set(7) + set(7) + flag(7), true},
		{"a flag set where it is left out", push(0) + skip(2) + set(7) + flag(7), false},
		{"0 or 0", push(0) + push(0) + or, false},
		{"0 or 1", push(0) + push(1) + or, true},
		{"1 or 0", push(1) + push(0) + or, true},
		{"1 or 1", push(1) + push(1) + or, true},
		{"two are taken, one is pushed", push(1) + push(0) + push(0) + or + or, true},
		{"the last one is taken first", push(0) + push(1) + skip(0), false},
		{"the last one is taken first", push(1) + push(0) + skip(0), true},
	} {
		got := mustRun(t, planOf(c.code+skip(3)+give(0), names...), files, nil, 7)
		want := api.Result{Clock: 7, Files: []api.File{{Path: "also5", Time: 5}, {Path: "five", Time: 5}, {Path: "high", Time: math.MaxInt}, {Path: "low", Time: math.MinInt}, {Path: "three", Time: 3}}}
		if c.want {
			want.Commands, want.Clock = []string{"go"}, 8
		}
		if !sameResult(got, want) {
			t.Errorf("%s: %+v, want %+v", c.why, got, want)
		}
	}
}

func TestRunSkips(t *testing.T) {
	for _, c := range []struct {
		why  string
		code string
		want string
	}{
		{"0 leaves out", push(0) + skip(3) + give(0) + give(1), "b"},
		{"1 does not", push(1) + skip(3) + give(0) + give(1), "a b"},
		{"to the end", push(0) + skip(6) + give(0) + give(1), ""},
		{"nothing to leave out", push(0) + skip(0) + give(0), "a"},
		{"a skip within what is left out", push(0) + skip(8) + push(0) + skip(3) + give(0) + give(1), "b"},
		{"a skip within what is not", push(1) + skip(8) + push(0) + skip(3) + give(0) + give(1), "b"},
		{"one skip leads to another", push(0) + push(0) + skip(3) + give(0) + skip(3) + give(1) + give(2), "c"},
		{"one skip leads to the next", push(0) + push(0) + skip(0) + skip(3) + give(1) + give(2), "c"},
		{"in their order", give(2) + give(0) + give(1) + give(0), "c a b a"},
	} {
		got := mustRun(t, planOf(c.code, "a", "b", "c"), nil, nil, 0)
		if strings.Join(got.Commands, " ") != c.want || got.Clock != len(got.Commands) || got.Exit != 0 {
			t.Errorf("%s: %+v, want %s", c.why, got, c.want)
		}
	}
}

func TestRunEffects(t *testing.T) {
	write := func(paths ...string) []api.File {
		var l []api.File
		for _, p := range paths {
			l = append(l, api.File{Path: p, Text: "by it", Time: 77})
		}
		return l
	}
	effects := []api.Effect{
		{Command: "write", Writes: write("b", "a", "c")},
		{Command: "write", Writes: write("second"), Exit: 9},
		{Command: "again", Writes: []api.File{{Path: "a", Text: "1"}, {Path: "b"}, {Path: "a", Text: "2"}}},
		{Command: "fail", Writes: write("f"), Exit: 3},
		{Command: "below", Exit: -1},
		{Command: "", Writes: write("")},
		{Command: "lowest", Exit: math.MinInt},
	}
	names := []string{"write", "again", "fail", "below", "nothing", "", "lowest", "write "}
	for _, c := range []struct {
		why   string
		code  string
		files []api.File
		want  api.Result
	}{
		{"no effect", give(4) + give(7), []api.File{file("x", "", 50)},
			result([]string{"nothing", "write "}, []api.File{file("x", "", 50)}, 0, 12)},
		{"the first effect", give(0), nil,
			result([]string{"write"}, []api.File{file("a", "by it", 11), file("b", "by it", 11), file("c", "by it", 11)}, 0, 11)},
		{"a file that is there is written over", give(4) + give(0), []api.File{file("b", "old", 99), file("0", "", 1), file("b", "older", 98)},
			result([]string{"nothing", "write"}, []api.File{file("0", "", 1), file("a", "by it", 12), file("b", "by it", 12), file("c", "by it", 12)}, 0, 12)},
		{"one file twice", give(1), nil,
			result([]string{"again"}, []api.File{file("a", "2", 11), file("b", "", 11)}, 0, 11)},
		{"an exit ends it, but its files are written", give(4) + give(2) + give(0), nil,
			result([]string{"nothing", "fail"}, []api.File{file("f", "by it", 12)}, 3, 12)},
		{"an exit below 0", give(3) + give(0), nil, result([]string{"below"}, nil, -1, 11)},
		{"the lowest exit", give(6) + give(0), nil, result([]string{"lowest"}, nil, math.MinInt, 11)},
		{"an exit with something on the stack", push(1) + give(2) + skip(0), nil,
			result([]string{"fail"}, []api.File{file("f", "by it", 11)}, 3, 11)},
		{"the empty command", give(5), nil, result([]string{""}, []api.File{file("", "by it", 11)}, 0, 11)},
		{"no code", "", []api.File{file("b", "", 2), file("a", "", 1)}, result(nil, []api.File{file("a", "", 1), file("b", "", 2)}, 0, 10)},
	} {
		got := mustRun(t, planOf(c.code, names...), c.files, effects, 10)
		if !sameResult(got, c.want) {
			t.Errorf("%s: %+v, want %+v", c.why, got, c.want)
		}
	}
}

// What was written is seen by what comes behind it.
func TestRunSeesWhatWasWritten(t *testing.T) {
	effects := []api.Effect{{Command: "mk", Writes: []api.File{{Path: "x"}}}}
	got := mustRun(t, planOf(absent(1)+skip(3)+give(0)+absent(1)+skip(3)+give(0), "mk", "x"), nil, effects, 0)
	if !slices.Equal(got.Commands, []string{"mk"}) {
		t.Errorf("%+v", got)
	}
	files := []api.File{{Path: "old", Time: 4}, {Path: "x", Time: 3}}
	got = mustRun(t, planOf(newer(1, 2)+skip(3)+give(0)+newer(1, 2)+skip(3)+give(0)+newer(2, 1)+skip(3)+give(3), "mk", "x", "old", "end"), files, effects, 4)
	if !slices.Equal(got.Commands, []string{"mk", "end"}) {
		t.Errorf("%+v", got)
	}
}

func TestRunAtIntsEnds(t *testing.T) {
	effects := []api.Effect{{Command: "mk", Writes: []api.File{{Path: "x"}}}}
	p := planOf(give(0)+newer(1, 2)+skip(3)+give(3)+newer(2, 1)+skip(3)+give(4), "mk", "x", "y", "y is newer", "x is newer")
	for _, c := range []struct {
		clock, time int
		last        string
	}{
		{math.MaxInt, 0, "y is newer"},
		{math.MaxInt, math.MinInt, ""},
		{math.MaxInt, math.MaxInt, "y is newer"},
		{math.MaxInt - 1, math.MaxInt, ""},
		{math.MaxInt - 1, math.MinInt, "x is newer"},
		{math.MinInt, math.MinInt, "x is newer"},
		{math.MinInt, math.MaxInt, "y is newer"},
		{-1, 0, ""},
		{-1, -1, "x is newer"},
	} {
		got := mustRun(t, p, []api.File{{Path: "y", Time: c.time}}, effects, c.clock)
		want := []string{"mk"}
		clock := c.clock + 1
		if c.last != "" {
			want = append(want, c.last)
			clock++
		}
		if !slices.Equal(got.Commands, want) || got.Clock != clock || got.Files[0].Time != c.clock+1 {
			t.Errorf("%d, %d: %+v, want %v", c.clock, c.time, got, want)
		}
	}
}

func TestRunFilesByRisingNames(t *testing.T) {
	names := []string{"b", "a", "\xff", "", "B", "aa", "a\x00", "é", "a.b", "_", "10", "9", "\x7f", " "}
	var files []api.File
	for i, n := range names {
		files = append(files, api.File{Path: n, Text: "of " + n, Time: i})
	}
	got := mustRun(t, planOf(""), files, nil, 0)
	want := []string{"", " ", "10", "9", "B", "_", "a", "a\x00", "a.b", "aa", "b", "\x7f", "é", "\xff"}
	var paths []string
	for _, f := range got.Files {
		paths = append(paths, f.Path)
		if f.Text != "of "+f.Path || names[f.Time] != f.Path {
			t.Errorf("%+v", f)
		}
	}
	if !slices.Equal(paths, want) {
		t.Errorf("%q, want %q", paths, want)
	}
}

func TestRunNotSound(t *testing.T) {
	files := []api.File{{Path: "f", Time: 4}}
	effects := []api.Effect{{Command: "go", Writes: []api.File{{Path: "g"}}, Exit: 2}}
	for _, p := range []string{"", "P1", planOf(give(0)+push(1), "go"), planOf(give(0)+"\x08", "go"), planOf(give(0)+give(1), "go"), planOf(push(1)+skip(1), "go")} {
		got, errno := maker.Run(p, files, effects, 5)
		if errno != api.ErrPlan || !isEmpty(got) {
			t.Errorf("Run(%x) = %+v, %d", p, got, errno)
		}
	}
	if files[0] != (api.File{Path: "f", Time: 4}) {
		t.Errorf("%+v", files)
	}
}

func TestRunAllSmallPlans(t *testing.T) {
	effects := []api.Effect{{Command: "go", Writes: []api.File{{Path: "a"}}}}
	for size := range 5 {
		eachSmallPlan(size, func(p string) {
			if modelSound(p) {
				mustRun(t, p, nil, effects, 1)
				mustRun(t, p, []api.File{{Path: "a"}}, []api.Effect{{Command: "go", Exit: 1}}, 1)
			}
		})
	}
}

func TestRunRandomPlans(t *testing.T) {
	r := rand.New(rand.NewSource(5))
	names := []string{"a", "b", "", "go", "\xff\x00"}
	clocks := []int{math.MinInt, -2, 0, 1, 5, math.MaxInt - 1, math.MaxInt}
	for range 40000 {
		p := planOf(randomBlock(r, len(names), 16, 4), names...)
		mustRun(t, p, randomFiles(r, names), randomEffects(r, names), clocks[r.Intn(len(clocks))])
	}
}

func TestRunOfAnyBytes(t *testing.T) {
	r := rand.New(rand.NewSource(6))
	for range 20000 {
		b := make([]byte, r.Intn(40))
		for i := range b {
			b[i] = byte(r.Intn(10))
		}
		p := planOf(string(b), "a", "b")
		got, errno := maker.Run(p, []api.File{{Path: "a"}}, nil, 3)
		if errno != maker.Check(p) || errno != api.OK && !isEmpty(got) {
			t.Fatalf("Run(%x) = %+v, %d", p, got, errno)
		}
	}
}

func TestRunOfLongPlans(t *testing.T) {
	code := strings.Repeat(push(1)+skip(3)+give(0), 100000)
	got, errno := maker.Run(planOf(code, "go"), nil, []api.Effect{{Command: "go", Writes: []api.File{{Path: "x"}}}}, 0)
	if errno != api.OK || len(got.Commands) != 100000 || got.Clock != 100000 || !slices.Equal(got.Files, []api.File{{Path: "x", Time: 100000}}) {
		t.Errorf("%d commands, %v, %d, %d", len(got.Commands), got.Files, got.Clock, errno)
	}
}

// wideFiles: a list with spare room that holds something.
func wideFiles(files ...api.File) []api.File {
	all := append(slices.Clip(files), api.File{Path: "spare1", Text: "s", Time: 1}, api.File{Path: "spare2", Time: 2})
	return all[:len(files)]
}

func TestRunLeavesItsArguments(t *testing.T) {
	make1 := func() ([]api.File, []api.Effect) {
		files := wideFiles(api.File{Path: "b", Time: 2}, api.File{Path: "a", Time: 1}, api.File{Path: "b", Time: 9})
		effects := []api.Effect{
			{Command: "one", Writes: wideFiles(api.File{Path: "a", Text: "new", Time: 40}, api.File{Path: "c", Time: 41})},
			{Command: "two", Writes: wideFiles(api.File{Path: "b", Time: 42}), Exit: 1},
			{Command: "spare", Writes: wideFiles(api.File{Path: "d"}), Exit: 6},
		}
		return files, effects[:2]
	}
	files, effects := make1()
	sameFiles, sameEffects := make1()
	p := planOf(give(0)+give(2)+give(1), "one", "two", "spare")
	got := mustRun(t, p, files, effects, 5)
	for i := range got.Commands[:cap(got.Commands)] {
		got.Commands[:cap(got.Commands)][i] = "the caller's"
	}
	for i := range got.Files[:cap(got.Files)] {
		got.Files[:cap(got.Files)][i] = api.File{Path: "the caller's", Text: "too", Time: -8}
	}
	untouched := func(a, b []api.File) bool { return slices.Equal(a[:cap(a)], b[:cap(b)]) }
	if !untouched(files, sameFiles) {
		t.Errorf("the files are changed: %+v", files[:cap(files)])
	}
	for i, e := range sameEffects[:cap(sameEffects)] {
		f := effects[:cap(effects)][i]
		if f.Command != e.Command || f.Exit != e.Exit || !untouched(f.Writes, e.Writes) {
			t.Errorf("the effects are changed: %+v", f)
		}
	}
	mustRun(t, p, files, effects, 5)
}

// Two answers share nothing, nor does an answer with the arguments that are changed later.
func TestRunAnswersNewMemory(t *testing.T) {
	files := []api.File{{Path: "a"}, {Path: "b"}}
	effects := []api.Effect{{Command: "go", Writes: []api.File{{Path: "c"}}}}
	p := planOf(give(0)+give(0), "go")
	one := mustRun(t, p, files, effects, 5)
	other := mustRun(t, p, files, effects, 5)
	kept := api.Result{Commands: slices.Clone(other.Commands), Files: slices.Clone(other.Files), Clock: other.Clock}
	one.Commands[0], one.Files[0].Text = "x", "x"
	_ = append(one.Commands, "more")
	_ = append(one.Files, api.File{Path: "more"})
	files[0].Text, effects[0].Writes[0].Text = "y", "y"
	if !sameResult(other, kept) {
		t.Errorf("%+v, want %+v", other, kept)
	}
	still := mustRun(t, planOf(""), files, nil, 0)
	files[1].Text = "z"
	if still.Files[1].Text != "" {
		t.Errorf("%+v", still)
	}
}

func TestRunNilAndEmpty(t *testing.T) {
	p := planOf(give(0)+absent(0)+skip(3)+give(1), "go", "on")
	want := mustRun(t, p, nil, nil, 2)
	for _, files := range [][]api.File{nil, {}} {
		for _, effects := range [][]api.Effect{nil, {}, {{Command: "go"}}, {{Command: "go", Writes: []api.File{}}}} {
			if got := mustRun(t, p, files, effects, 2); !reflect.DeepEqual(got, want) {
				t.Errorf("%+v, want %+v", got, want)
			}
		}
	}
}

func TestRunAnswersTheSameEachTime(t *testing.T) {
	var files []api.File
	for i := range 40 {
		files = append(files, api.File{Path: strings.Repeat("x", i*7%41), Time: i})
	}
	effects := []api.Effect{{Command: "go", Writes: []api.File{{Path: "z"}, {Path: "y"}}}}
	p := planOf(give(0)+give(1), "go", "on")
	want := mustRun(t, p, files, effects, 2)
	for range 50 {
		if got := mustRun(t, p, files, effects, 2); !reflect.DeepEqual(got, want) {
			t.Fatalf("%+v, want %+v", got, want)
		}
	}
}
