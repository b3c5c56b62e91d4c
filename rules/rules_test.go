package rules

import (
	"slices"
	"testing"

	"maker/api"
	"maker/world"
)

func mustRead(t *testing.T, text string) *Book {
	t.Helper()
	book, errno, line := Read(world.New([]api.File{{Path: "R", Text: text}, {Path: "I", Text: "i:\n\n\tgo\n"}}, nil, 0), "R")
	if errno != api.OK || line != 0 {
		t.Fatalf("%q: %d, %d", text, errno, line)
	}
	return book
}

func TestBook(t *testing.T) {
	book := mustRead(t, "%.o: %.c\n\tcc\n.PHONY: p q\na b: c d c\n\tone\n\ttwo\nb: e\ninclude I\n%.o:\n")
	if book.First() != "a" {
		t.Errorf("the first target: %q", book.First())
	}
	for _, name := range []string{"a", "b", "i"} {
		if !book.IsTarget(name) || book.IsPhony(name) {
			t.Errorf("%s is no target, or phony", name)
		}
	}
	for _, name := range []string{"p", "q"} {
		if book.IsTarget(name) || !book.IsPhony(name) {
			t.Errorf("%s is a target, or not phony", name)
		}
	}
	for _, name := range []string{"c", "%.o", "x.o", ".PHONY", ""} {
		if book.IsTarget(name) || book.IsPhony(name) || len(book.Of(name)) > 0 {
			t.Errorf("%q is a target, or phony", name)
		}
	}
	if len(book.Patterns) != 2 || len(book.Patterns[0].Commands) != 1 || len(book.Patterns[1].Commands) != 0 {
		t.Errorf("the patterns: %+v", book.Patterns)
	}
	of := book.Of("b")
	if len(of) != 2 || !slices.Equal(of[0].Needs, []string{"c", "d"}) || !slices.Equal(of[1].Needs, []string{"e"}) {
		t.Errorf("the rules of b: %+v", of)
	}
	if !slices.Equal(of[0].Commands, []Command{{Text: "one", Line: 5}, {Text: "two", Line: 6}}) {
		t.Errorf("the commands of b: %+v", of[0].Commands)
	}
	if i := book.Of("i"); len(i) != 1 || !slices.Equal(i[0].Commands, []Command{{Text: "go", Line: 3}}) {
		t.Errorf("the rules of i: %+v", i)
	}
}

func TestBookWithoutRules(t *testing.T) {
	book := mustRead(t, "A = 1\n%: a\n.PHONY: p\n")
	if book.First() != "" || book.Names["A"].Text != "1" || !book.Names["A"].Late {
		t.Errorf("%q, %+v", book.First(), book.Names)
	}
}

func TestReadErrors(t *testing.T) {
	w := world.New([]api.File{{Path: "R", Text: "a:\ninclude I"}, {Path: "I", Text: "\n\n\n$(x:\n"}}, nil, 0)
	if book, errno, line := Read(w, "R"); book != nil || errno != api.ErrSyntax || line != 4 {
		t.Errorf("%v, %d, %d", book, errno, line)
	}
	if book, errno, line := Read(w, "none"); book != nil || errno != api.ErrInclude || line != 0 {
		t.Errorf("%v, %d, %d", book, errno, line)
	}
}

func TestOnce(t *testing.T) {
	if got := Once([]string{"b", "a", "b"}, nil, []string{"c", "a"}); !slices.Equal(got, []string{"b", "a", "c"}) {
		t.Errorf("%q", got)
	}
	if got := Once(); len(got) != 0 {
		t.Errorf("%q", got)
	}
}
