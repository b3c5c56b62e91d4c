package lines

import (
	"slices"
	"strings"
	"testing"

	"maker/api"
)

type whole struct {
	number int
	text   string
}

func TestJoined(t *testing.T) {
	for _, c := range []struct {
		text string
		want []whole
	}{
		{"", []whole{{1, ""}}},
		{"a", []whole{{1, "a"}}},
		{"a\n", []whole{{1, "a"}, {2, ""}}},
		{"a\n\nb", []whole{{1, "a"}, {2, ""}, {3, "b"}}},
		{"a\\\nb\nc", []whole{{1, "a b"}, {3, "c"}}},
		{"a \\\n \t b \nc", []whole{{1, "a  b "}, {3, "c"}}},
		{"a\\\n\\\n\\\nb\nc", []whole{{1, "a   b"}, {5, "c"}}},
		{"a\\\n\nb", []whole{{1, "a "}, {3, "b"}}},
		{"a\\\n \t\nb", []whole{{1, "a "}, {3, "b"}}},
		{"a\\ \nb", []whole{{1, "a\\ "}, {2, "b"}}},
		{"a\\\r\nb", []whole{{1, "a\\\r"}, {2, "b"}}},
		{"a\\\\\nb", []whole{{1, "a\\ b"}}},
		{"a\\\\\\\nb\\\\\nc", []whole{{1, "a\\\\ b\\ c"}}},
		{"a\\", []whole{{1, "a"}}},
		{"a\\\\\\", []whole{{1, "a"}}},
		{"\\\\", []whole{{1, ""}}},
		{"\\", []whole{{1, ""}}},
		{"a\\\n", []whole{{1, "a "}}},
		{"a\\\\\n", []whole{{1, "a\\ "}}},
		{"a\\\\\n\\\\", []whole{{1, "a\\ "}}},
		{"a\\\nb\\\\", []whole{{1, "a b"}}},
		{"\\\n\tb", []whole{{1, " b"}}},
	} {
		var got []whole
		for number, text := range joined(c.text) {
			got = append(got, whole{number, text})
		}
		if !slices.Equal(got, c.want) {
			t.Errorf("joined(%q) = %+v, want %+v", c.text, got, c.want)
		}
	}
}

type told struct {
	line  Line
	errno api.Errno
}

func allOf(text string) []told {
	var got []told
	for line, errno := range All(text) {
		got = append(got, told{line, errno})
	}
	return got
}

func TestAllKinds(t *testing.T) {
	for _, c := range []struct {
		text string
		want Line
	}{
		{"\tgo", Line{1, Command, "", "go"}},
		{"\t \t go # on\t", Line{1, Command, "", "go # on\t"}},
		{"\tinclude x", Line{1, Command, "", "include x"}},
		{"\t#", Line{1, Command, "", "#"}},
		{"include x", Line{1, Include, "", "x"}},
		{" include\t x  y ", Line{1, Include, "", "x  y"}},
		{"include : x", Line{1, Include, "", ": x"}},
		{"include = x", Line{1, Include, "", "= x"}},
		{"N:=a", Line{1, Fixed, "N", "a"}},
		{" N\t:=  a  b # c", Line{1, Fixed, "N", "a  b"}},
		{"N:==a", Line{1, Fixed, "N", "=a"}},
		{"N=a", Line{1, Late, "N", "a"}},
		{"N==a", Line{1, Late, "N", "=a"}},
		{"N=:a", Line{1, Late, "N", ":a"}},
		{"N=", Line{1, Late, "N", ""}},
		{"a:b", Line{1, Rule, "a", "b"}},
		{"a  b : c\t d ", Line{1, Rule, "a  b", "c\t d"}},
		{"a: =b", Line{1, Rule, "a", "=b"}},
		{"a::=b", Line{1, Rule, "a", ":=b"}},
		{"a b:", Line{1, Rule, "a b", ""}},
		{"\n# x\n \t\n\t \na:", Line{5, Rule, "a", ""}},
	} {
		if got := allOf(c.text); !slices.Equal(got, []told{{c.want, api.OK}}) {
			t.Errorf("All(%q) = %v, want %v alone", c.text, got, c.want)
		}
	}
}

func TestAllEndsWithTheFirstError(t *testing.T) {
	got := allOf("a:\\\nb\n\nx\ny\nA=1")
	want := []told{{Line{1, Rule, "a", "b"}, api.OK}, {Line{Number: 4}, api.ErrSyntax}}
	if !slices.Equal(got, want) {
		t.Errorf("got %v, want %v", got, want)
	}
}

func TestAllMayBeLeft(t *testing.T) {
	seen := 0
	for range All("a:\nb:\nc:") {
		seen++
		if seen == 2 {
			break
		}
	}
	if seen != 2 {
		t.Errorf("%d lines were seen", seen)
	}
}

func TestIsName(t *testing.T) {
	for _, c := range []struct {
		text string
		want bool
	}{
		{"", false}, {"a", true}, {"_", true}, {"0", true}, {"azAZ09_", true},
		{strings.Repeat("x", 16), true}, {strings.Repeat("x", 17), false},
		{"a b", false}, {"a-b", false}, {"a.b", false}, {"$", false}, {"é", false}, {"a\xff", false}, {"a\x00", false},
		{"@", false}, {"[", false}, {"`", false}, {"{", false}, {"/", false}, {"^", false},
	} {
		if got := IsName(c.text); got != c.want {
			t.Errorf("IsName(%q) = %v", c.text, got)
		}
	}
}

func TestWords(t *testing.T) {
	for _, c := range []struct {
		text string
		want []string
	}{
		{"", nil}, {" \t ", nil}, {"a", []string{"a"}}, {"\ta  b\t\tc ", []string{"a", "b", "c"}},
		{"a\rb\v \fc\u00a0d\u2003e", []string{"a\rb\v", "\fc\u00a0d\u2003e"}}, {"\xff \xfe", []string{"\xff", "\xfe"}},
	} {
		if got := Words(c.text); !slices.Equal(got, c.want) {
			t.Errorf("Words(%q) = %q, want %q", c.text, got, c.want)
		}
	}
}
