package plans

import (
	"strconv"
	"strings"
	"testing"

	"maker/api"
)

func wantPlan(t *testing.T, w *Writer, want string) {
	t.Helper()
	got, ok := w.Text()
	if !ok || got != want {
		t.Errorf("%x, %t, want %x", got, ok, want)
	}
}

func wantNone(t *testing.T, why string, w *Writer) {
	t.Helper()
	if got, ok := w.Text(); ok || got != "" {
		t.Errorf("%s: %x, %t", why, got, ok)
	}
}

func TestWriteNothing(t *testing.T) {
	wantPlan(t, NewWriter(), "P1\x00\x00")
}

func TestWriteInstructions(t *testing.T) {
	w := NewWriter()
	w.Add(Push, 1)
	w.Add(Absent, 258)
	w.Add(Newer, 258, 65534)
	w.Add(Flag, 255)
	w.Add(Or)
	w.Add(Skip, 2)
	w.Add(Give, 65535)
	w.Add(Set, 7)
	wantPlan(t, w, "P1\x00\x00"+"\x01\x01\x02\x01\x02\x03\x01\x02\xff\xfe\x04\xff\x05\x06\x00\x02\x07\xff\xff\x08\x07")
}

func TestWriteStrings(t *testing.T) {
	w := NewWriter()
	for i, text := range []string{"b", "", "ab", "b", "", "c"} {
		if want := []int{0, 1, 2, 0, 1, 3}[i]; w.String(text) != want {
			t.Errorf("%q: %d, want %d", text, w.String(text), want)
		}
	}
	wantPlan(t, w, "P1\x00\x04\x00\x01b\x00\x00\x00\x02ab\x00\x01c")
}

func TestWriteSkips(t *testing.T) {
	w := NewWriter()
	w.AddSkip(func() {
		w.Add(Set, 1)
		w.AddSkip(func() { w.Add(Set, 2) })
	})
	w.AddSkip(func() {})
	wantPlan(t, w, "P1\x00\x00"+"\x06\x00\x07\x08\x01\x06\x00\x02\x08\x02"+"\x06\x00\x00")
	long := NewWriter()
	long.AddSkip(func() {
		for range 300 {
			long.Add(Or)
		}
	})
	wantPlan(t, long, "P1\x00\x00\x06\x01\x2c"+strings.Repeat("\x05", 300))
}

func TestWriteMoreThanAPlanHolds(t *testing.T) {
	w := NewWriter()
	for i := range api.MaxStrings {
		w.String(strconv.Itoa(i))
	}
	text, ok := w.Text()
	if plan, errno := Read(text); !ok || errno != api.OK || len(plan.Strings) != api.MaxStrings {
		t.Errorf("%d strings: %t, %d", api.MaxStrings, ok, errno)
	}
	w.String("one more")
	wantNone(t, "too many strings", w)

	w = NewWriter()
	w.String(strings.Repeat("x", 1<<16-1))
	text, ok = w.Text()
	if plan, errno := Read(text); !ok || errno != api.OK || len(plan.Strings[0]) != 1<<16-1 {
		t.Errorf("the longest string: %t, %d", ok, errno)
	}
	w.String(strings.Repeat("x", 1<<16))
	wantNone(t, "too long a string", w)

	for _, size := range []int{1<<16 - 1, 1 << 16} {
		w = NewWriter()
		w.AddSkip(func() {
			for range size {
				w.Add(Or)
			}
		})
		if _, ok := w.Text(); ok != (size < 1<<16) {
			t.Errorf("a skip of %d bytes: %t", size, ok)
		}
	}

	w = NewWriter()
	w.Add(Set, 256)
	wantNone(t, "too great a flag", w)
}
