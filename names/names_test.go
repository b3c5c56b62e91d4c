package names

import (
	"strings"
	"testing"

	"maker/api"
)

func fixed(text string) Value { return Value{Text: text} }
func late(text string) Value  { return Value{Text: text, Late: true} }

func someSigns(sign byte) (string, bool) {
	if sign == '@' {
		return "at", true
	}
	return "", false
}

func TestExpand(t *testing.T) {
	n := Names{"F": fixed("$x $(L)"), "L": late("l$(F)$$"), "S": late("[$@]"), "X": late("$(X)"), "Y": late("$(Z)"), "Z": late("z$(Y)"), "E": fixed(""), "B": late(strings.Repeat("b", 2001)), "T": late("$(L)$(L)")}
	for _, c := range []struct {
		text  string
		signs Signs
		want  string
		errno api.Errno
	}{
		{"", NoSigns, "", api.OK},
		{"a b", NoSigns, "a b", api.OK},
		{"$$", NoSigns, "$", api.OK},
		{"$(F)", NoSigns, "$x $(L)", api.OK},
		{"$(L)", NoSigns, "l$x $(L)$", api.OK},
		{"$(T)", NoSigns, "l$x $(L)$l$x $(L)$", api.OK},
		{"<$(E)$(none)>", NoSigns, "<>", api.OK},
		{"$@", someSigns, "at", api.OK},
		{"$(S)$(S)", someSigns, "[at][at]", api.OK},
		{"$@", NoSigns, "", api.ErrSyntax},
		{"$(S)", NoSigns, "", api.ErrSyntax},
		{"$<", someSigns, "", api.ErrSyntax},
		{"$", someSigns, "", api.ErrSyntax},
		{"$(F", someSigns, "", api.ErrSyntax},
		{"$(F G)", someSigns, "", api.ErrSyntax},
		{"a$(X)", NoSigns, "", api.ErrLoop},
		{"a$(Y)", NoSigns, "", api.ErrLoop},
		{"a$(B)", NoSigns, "", api.ErrSize},
		{"$(B)$x", NoSigns, "", api.ErrSize},
		{"$x$(B)", NoSigns, "", api.ErrSyntax},
		{strings.Repeat("$(E)", 300), NoSigns, "", api.OK},
		{strings.Repeat("$(E)", 301), NoSigns, "", api.ErrSize},
	} {
		if got, errno := n.Expand(c.text, c.signs); got != c.want || errno != c.errno {
			t.Errorf("%q: %q, %d, want %q, %d", c.text, got, errno, c.want, c.errno)
		}
	}
}

// What one expansion has counted and marked, the next one does not see, also behind an error.
func TestExpandAgain(t *testing.T) {
	n := Names{"A": late("$(E)$(B)"), "B": late("b"), "X": late("$(B)$x")}
	expand := n.expansion(NoSigns)
	for range 3 {
		if got, errno := expand("$(A)"); got != "b" || errno != api.OK {
			t.Errorf("%q, %d", got, errno)
		}
		if got, errno := expand("$(X)"); got != "" || errno != api.ErrSyntax {
			t.Errorf("the mark stays behind an error: %q, %d", got, errno)
		}
	}
	for range 400 {
		if got, errno := n.Expand("$(A)", NoSigns); got != "b" || errno != api.OK {
			t.Fatalf("%q, %d", got, errno)
		}
	}
}

func TestExpandOfNoNames(t *testing.T) {
	var none Names
	if got, errno := none.Expand("a$(B)c", NoSigns); got != "ac" || errno != api.OK {
		t.Errorf("%q, %d", got, errno)
	}
}
