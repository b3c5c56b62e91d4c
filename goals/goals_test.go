package goals

import (
	"slices"
	"testing"

	"maker/api"
	"maker/rules"
	"maker/world"
)

func order(t *testing.T, text, goal string, there ...string) ([]Node, api.Errno) {
	t.Helper()
	files := []api.File{{Path: "R", Text: text}}
	for _, name := range there {
		files = append(files, api.File{Path: name})
	}
	w := world.New(files, nil, 0)
	book, errno, line := rules.Read(w, "R")
	if errno != api.OK {
		t.Fatalf("%q: %d, %d", text, errno, line)
	}
	return Order(book, w, goal)
}

func TestOrder(t *testing.T) {
	nodes, errno := order(t, ".PHONY: p\nall: b.o a.o p\n%.o: %.c h\n\tcc\na.o: x h\n", "", "a.c", "b.c", "h", "x")
	if errno != api.OK {
		t.Fatal(errno)
	}
	for i, want := range []Node{
		{Name: "b.c"},
		{Name: "h"},
		{Name: "b.o", Needs: []string{"b.c", "h"}, Stem: "b"},
		{Name: "a.c"},
		{Name: "x"},
		{Name: "a.o", Needs: []string{"a.c", "h", "x"}, Stem: "a"},
		{Name: "p", Phony: true},
		{Name: "all", Needs: []string{"b.o", "a.o", "p"}},
	} {
		got := nodes[i]
		if got.Name != want.Name || got.Phony != want.Phony || got.Stem != want.Stem || !slices.Equal(got.Needs, want.Needs) {
			t.Errorf("%+v, want %+v", got, want)
		}
		if (len(got.Commands) == 1) != (want.Stem != "") {
			t.Errorf("%s has the commands %v", got.Name, got.Commands)
		}
	}
	if len(nodes) != 8 {
		t.Errorf("%d nodes", len(nodes))
	}
}

func TestOrderErrors(t *testing.T) {
	for _, c := range []struct {
		text, goal string
		errno      api.Errno
	}{
		{"", "", api.ErrRule},
		{"a:", "b", api.ErrRule},
		{"a: b", "", api.ErrRule},
		{"a: a", "", api.ErrCycle},
		{"a: b\nb: a", "b", api.ErrCycle},
	} {
		if nodes, errno := order(t, c.text, c.goal); nodes != nil || errno != c.errno {
			t.Errorf("%q, %q: %v, %d, want %d", c.text, c.goal, nodes, errno, c.errno)
		}
	}
}

func TestStemOf(t *testing.T) {
	for _, c := range []struct {
		name, target, stem string
		ok                 bool
	}{
		{"a.o", "%.o", "a", true},
		{"xa", "x%", "a", true},
		{"a", "%", "a", true},
		{"xaby", "x%y", "ab", true},
		{"aaa", "a%a", "a", true},
		{"aa", "a%a", "", false},
		{"a", "a%a", "", false},
		{".o", "%.o", "", false},
		{"a.c", "%.o", "", false},
		{"ya", "x%", "", false},
	} {
		stem, ok := stemOf(c.name, c.target)
		if ok != c.ok || ok && stem != c.stem {
			t.Errorf("%s by %s: %q, %t", c.name, c.target, stem, ok)
		}
	}
}
