package plans

import (
	"slices"
	"testing"

	"maker/api"
)

type told struct {
	instruction Instruction
	ok          bool
}

func allOf(code string) []told {
	var got []told
	for instruction, ok := range Instructions(code) {
		got = append(got, told{instruction, ok})
	}
	return got
}

func TestInstructions(t *testing.T) {
	got := allOf("\x01\x01\x02\x01\x02\x03\x01\x02\xff\xfe\x04\xff\x05\x06\x00\x02\x07\xff\xff\x08\x07")
	want := []told{
		{Instruction{Push, 0, 2, 1, 0}, true},
		{Instruction{Absent, 2, 5, 258, 0}, true},
		{Instruction{Newer, 5, 10, 258, 65534}, true},
		{Instruction{Flag, 10, 12, 255, 0}, true},
		{Instruction{Or, 12, 13, 0, 0}, true},
		{Instruction{Skip, 13, 16, 2, 0}, true},
		{Instruction{Give, 16, 19, 65535, 0}, true},
		{Instruction{Set, 19, 21, 7, 0}, true},
	}
	if !slices.Equal(got, want) {
		t.Errorf("got %v, want %v", got, want)
	}
	if got := allOf(""); len(got) != 0 {
		t.Errorf("no code has %v", got)
	}
}

func TestInstructionsEndWithTheFirstThatIsNone(t *testing.T) {
	set := told{Instruction{Set, 0, 2, 3, 0}, true}
	for _, bad := range []string{
		"\x00", "\x09", "\xff", "\x00\x08\x03", "\x09\x08\x03",
		"\x01", "\x02", "\x02\x00", "\x03", "\x03\x00", "\x03\x00\x00", "\x03\x00\x00\x00", "\x04", "\x06", "\x06\x00", "\x07", "\x07\x00", "\x08",
	} {
		want := []told{set, {}}
		if got := allOf("\x08\x03" + bad); !slices.Equal(got, want) {
			t.Errorf("%x: got %v, want %v", bad, got, want)
		}
	}
}

func TestInstructionsMayBeLeft(t *testing.T) {
	seen := 0
	for range Instructions("\x05\x05\x05") {
		seen++
		if seen == 2 {
			break
		}
	}
	if seen != 2 {
		t.Errorf("%d instructions were seen", seen)
	}
}

func TestRead(t *testing.T) {
	plan, errno := Read("P1\x00\x03\x00\x01a\x00\x00\x00\x02P1\x07\x00\x02")
	if errno != api.OK || !slices.Equal(plan.Strings, []string{"a", "", "P1"}) || plan.Code != "\x07\x00\x02" {
		t.Errorf("%q, %d", plan, errno)
	}
	plan, errno = Read("P1\x00\x01\x00\x01a\x07\x00\x01")
	if errno != api.ErrPlan || plan.Strings != nil || plan.Code != "" {
		t.Errorf("%q, %d", plan, errno)
	}
}
