package world

import (
	"math"
	"slices"
	"testing"

	"maker/api"
)

func TestFirstFileOfANameCounts(t *testing.T) {
	w := New([]api.File{{Path: "b", Text: "one", Time: 1}, {Path: "a"}, {Path: "b", Text: "two", Time: 2}, {Path: ""}}, nil, 0)
	want := []api.File{{Path: ""}, {Path: "a"}, {Path: "b", Text: "one", Time: 1}}
	if got := w.Files(); !slices.Equal(got, want) {
		t.Errorf("%v, want %v", got, want)
	}
}

func TestHas(t *testing.T) {
	w := New([]api.File{{Path: "a"}}, []api.Effect{{Command: "go", Writes: []api.File{{Path: "b"}}}}, 0)
	if !w.Has("a") || w.Has("b") || w.Has("") {
		t.Error("a alone is there")
	}
	w.Give("go")
	if !w.Has("a") || !w.Has("b") {
		t.Error("b was written")
	}
}

func TestNewer(t *testing.T) {
	w := New([]api.File{{Path: "low", Time: math.MinInt}, {Path: "low2", Time: math.MinInt}, {Path: "zero"}, {Path: "high", Time: math.MaxInt}}, nil, 0)
	for _, c := range []struct {
		one, other string
		want       bool
	}{
		{"low", "high", true}, {"high", "low", false}, {"low", "low2", false}, {"low", "low", false}, {"high", "high", false},
		{"low", "zero", true}, {"zero", "low", false}, {"zero", "high", true}, {"high", "zero", false},
		{"low", "none", false}, {"none", "high", false}, {"none", "none", false},
	} {
		if got := w.Newer(c.one, c.other); got != c.want {
			t.Errorf("Newer(%s, %s) = %v", c.one, c.other, got)
		}
	}
}

func TestGive(t *testing.T) {
	w := New(nil, []api.Effect{
		{Command: "go", Writes: []api.File{{Path: "x", Text: "1", Time: 70}, {Path: "y"}, {Path: "x", Text: "2"}}, Exit: -4},
		{Command: "go", Writes: []api.File{{Path: "z"}}, Exit: 5},
	}, math.MaxInt)
	if exit := w.Give("go "); exit != 0 || len(w.Files()) != 0 || w.Clock() != math.MinInt {
		t.Errorf("no effect: %d, %v, %d", exit, w.Files(), w.Clock())
	}
	exit := w.Give("go")
	want := []api.File{{Path: "x", Text: "2", Time: math.MinInt + 1}, {Path: "y", Time: math.MinInt + 1}}
	if exit != -4 || !slices.Equal(w.Files(), want) || w.Clock() != math.MinInt+1 {
		t.Errorf("an effect: %d, %v, %d", exit, w.Files(), w.Clock())
	}
}

func TestText(t *testing.T) {
	w := New([]api.File{{Path: "a", Text: "first"}, {Path: "a", Text: "second"}, {Path: ""}}, nil, 0)
	for _, c := range []struct {
		name, text string
		ok         bool
	}{{"a", "first", true}, {"", "", true}, {"b", "", false}} {
		if text, ok := w.Text(c.name); text != c.text || ok != c.ok {
			t.Errorf("%q: %q, %t", c.name, text, ok)
		}
	}
}
