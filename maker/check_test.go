package maker_test

import (
	"math/rand"
	"strings"
	"testing"

	"maker/api"
	"maker/maker"
)

type checkCase struct {
	why  string
	plan string
	want api.Errno
}

// checkAll looks at Run too: it finds the same plans sound.
func checkAll(t *testing.T, cases []checkCase) {
	t.Helper()
	for _, c := range cases {
		if (c.want == api.OK) != modelSound(c.plan) {
			t.Errorf("%s: the model says otherwise", c.why)
		}
		if got := maker.Check(c.plan); got != c.want {
			t.Errorf("%s: %d, want %d", c.why, got, c.want)
		}
		files := []api.File{{Path: "f", Time: 4}}
		got, errno := maker.Run(c.plan, files, nil, 3)
		if errno != c.want {
			t.Errorf("%s: Run: %d, want %d", c.why, errno, c.want)
		}
		if errno != api.OK && !isEmpty(got) {
			t.Errorf("%s: Run: beside the error: %+v", c.why, got)
		}
	}
}

func isEmpty(r api.Result) bool {
	return len(r.Commands) == 0 && len(r.Files) == 0 && r.Exit == 0 && r.Clock == 0
}

func TestCheckForm(t *testing.T) {
	long := strings.Repeat("x", 65535)
	checkAll(t, []checkCase{
		{"nothing", "", api.ErrPlan},
		{"one byte", "P", api.ErrPlan},
		{"no number", "P1", api.ErrPlan},
		{"half a number", "P1\x00", api.ErrPlan},
		{"nothing in it", "P1\x00\x00", api.OK},
		{"another first byte", "p1\x00\x00", api.ErrPlan},
		{"another second byte", "P2\x00\x00", api.ErrPlan},
		{"a byte ahead", " P1\x00\x00", api.ErrPlan},
		{"no string", "P1\x00\x01", api.ErrPlan},
		{"half a length", "P1\x00\x01\x00", api.ErrPlan},
		{"a length alone", "P1\x00\x01\x00\x01", api.ErrPlan},
		{"a string one byte short", "P1\x00\x01\x00\x03ab", api.ErrPlan},
		{"a string whole", "P1\x00\x01\x00\x03abc", api.OK},
		{"an empty string", "P1\x00\x01\x00\x00", api.OK},
		{"the second string is missing", "P1\x00\x02\x00\x01a", api.ErrPlan},
		{"the second string is short", "P1\x00\x02\x00\x01a\x00\x02b", api.ErrPlan},
		{"a byte behind the strings is code", "P1\x00\x01\x00\x01ab", api.ErrPlan},
		{"a length with a high byte", "P1\x00\x01\x01\x00" + strings.Repeat("y", 256), api.OK},
		{"the longest string", planOf("", long), api.OK},
		{"the longest string, a byte short", "P1\x00\x01\xff\xff" + long[1:], api.ErrPlan},
		{"strings of any bytes", planOf("", "\x00\xff\n", "P1", "\x80"), api.OK},
		{"1000 strings", planOf("", make([]string, 1000)...), api.OK},
		{"1000 strings, the last is named", planOf(give(999), make([]string, 1000)...), api.OK},
		{"1000 strings, one behind is named", planOf(give(1000), make([]string, 1000)...), api.ErrPlan},
		{"1001 strings", planOf("", make([]string, 1001)...), api.ErrPlan},
		{"65535 strings", planOf("", make([]string, 65535)...), api.ErrPlan},
		{"1000 strings are told, 999 are there", "P1\x03\xe8" + strings.Repeat("\x00\x00", 999), api.ErrPlan},
	})
}

func TestCheckInstructions(t *testing.T) {
	var cases []checkCase
	whole := []string{push(1) + skip(0), absent(0) + skip(0), newer(0, 0) + skip(0), flag(0) + skip(0), push(0) + push(0) + or + skip(0), give(0), set(0)}
	for _, w := range whole {
		cases = append(cases, checkCase{"whole", planOf(w, "s"), api.OK})
		cases = append(cases, checkCase{"whole, with others around", planOf(set(9)+w+give(0), "s"), api.OK})
	}
	for _, w := range []string{push(1), absent(0), newer(0, 0), flag(0), skip(0), give(0), set(0)} {
		for n := 1; n < len(w); n++ {
			ahead := ""
			if w[0] == 6 {
				ahead = push(1)
			}
			cases = append(cases, checkCase{"cut short", planOf(ahead+w[:n], "s"), api.ErrPlan})
		}
	}
	for op := range 256 {
		if op < 1 || op > 8 {
			cases = append(cases, checkCase{"no instruction", planOf(string([]byte{byte(op)}), "s"), api.ErrPlan})
			cases = append(cases, checkCase{"no instruction", planOf(set(1)+string([]byte{byte(op), 0, 0})+set(1), "s"), api.ErrPlan})
		}
		want := api.ErrPlan
		if op <= 1 {
			want = api.OK
		}
		cases = append(cases, checkCase{"the byte v", planOf(push(op) + skip(0)), want})
		cases = append(cases, checkCase{"a flag", planOf(flag(op) + skip(0) + set(op)), api.OK})
	}
	checkAll(t, cases)
}

func TestCheckStrings(t *testing.T) {
	var cases []checkCase
	for s := range 4 {
		want := api.OK
		if s >= 2 {
			want = api.ErrPlan
		}
		cases = append(cases,
			checkCase{"absent", planOf(absent(s)+skip(0), "a", "b"), want},
			checkCase{"newer, the first", planOf(newer(s, 1)+skip(0), "a", "b"), want},
			checkCase{"newer, the second", planOf(newer(1, s)+skip(0), "a", "b"), want},
			checkCase{"give", planOf(give(s), "a", "b"), want},
			checkCase{"give, left out always", planOf(push(0)+skip(3)+give(s), "a", "b"), want},
		)
	}
	cases = append(cases,
		checkCase{"a high byte alone", planOf(give(256), "a", "b"), api.ErrPlan},
		checkCase{"a high byte alone", planOf(absent(0x100)+skip(0), "a", "b"), api.ErrPlan},
		checkCase{"a high byte alone", planOf(newer(0x100, 0)+skip(0), "a", "b"), api.ErrPlan},
		checkCase{"a high byte alone", planOf(newer(0, 0x100)+skip(0), "a", "b"), api.ErrPlan},
		checkCase{"no string at all", planOf(give(0)), api.ErrPlan},
		checkCase{"the last number", planOf(give(65535), "a"), api.ErrPlan},
		checkCase{"a flag is no string", planOf(flag(7) + skip(0) + set(8)), api.OK},
	)
	checkAll(t, cases)
}

func TestCheckStack(t *testing.T) {
	pops := func(n int) string { return strings.Repeat(skip(0), n) }
	cases := []checkCase{
		{"skip takes of none", planOf(skip(0)), api.ErrPlan},
		{"or takes of none", planOf(or + skip(0)), api.ErrPlan},
		{"or takes two of one", planOf(push(1) + or + skip(0)), api.ErrPlan},
		{"or takes two of two", planOf(push(1) + push(1) + or + skip(0)), api.OK},
		{"skip takes one more", planOf(push(1) + skip(0) + skip(0)), api.ErrPlan},
		{"or leaves one only", planOf(push(1) + push(1) + or + skip(0) + skip(0)), api.ErrPlan},
		{"one is left", planOf(push(1)), api.ErrPlan},
		{"one is left behind or", planOf(push(1) + push(1) + or), api.ErrPlan},
		{"one of two is left", planOf(push(1) + push(1) + skip(0)), api.ErrPlan},
		{"set and give leave it", planOf(push(1)+set(1)+give(0)+skip(0), "a"), api.OK},
		{"sixteen, then or, then one more", planOf(strings.Repeat(push(1), 16) + or + push(1) + pops(16)), api.OK},
		{"sixteen, then or, then two more", planOf(strings.Repeat(push(1), 16) + or + push(1) + push(1) + pops(17)), api.ErrPlan},
		{"seventeen, left out always", planOf(push(0) + skip(17*2+17*3) + strings.Repeat(push(1), 17) + pops(17)), api.ErrPlan},
		{"sixteen, left out always", planOf(push(0) + skip(16*2+16*3) + strings.Repeat(push(1), 16) + pops(16)), api.OK},
		{"sixteen again and again", planOf(strings.Repeat(strings.Repeat(push(0), 16)+pops(16), 50)), api.OK},
	}
	for _, one := range []string{push(0), absent(0), newer(0, 0), flag(0)} {
		cases = append(cases,
			checkCase{"sixteen", planOf(strings.Repeat(one, 16)+pops(16), "a"), api.OK},
			checkCase{"seventeen", planOf(strings.Repeat(one, 17)+pops(17), "a"), api.ErrPlan},
			checkCase{"the seventeenth", planOf(strings.Repeat(push(0), 16)+one+pops(17), "a"), api.ErrPlan},
			checkCase{"one is left", planOf(one, "a"), api.ErrPlan},
		)
	}
	checkAll(t, cases)
}

func TestCheckSkips(t *testing.T) {
	far := strings.Repeat(or, 65535)
	checkAll(t, []checkCase{
		{"nothing is left out", planOf(push(1) + skip(0)), api.OK},
		{"nothing is left out, something is behind", planOf(push(1) + skip(0) + set(1)), api.OK},
		{"to the end", planOf(push(1) + skip(2) + set(1)), api.OK},
		{"beyond the end", planOf(push(1) + skip(3) + set(1)), api.ErrPlan},
		{"one beyond the end", planOf(push(1) + skip(1)), api.ErrPlan},
		{"far beyond the end", planOf(push(1) + skip(65535)), api.ErrPlan},
		{"far beyond the end, with a high byte", planOf(push(1) + skip(0x0200) + set(1)), api.ErrPlan},
		{"to an instruction", planOf(push(1) + skip(2) + set(1) + set(2)), api.OK},
		{"into the midst of set", planOf(push(1) + skip(1) + set(1)), api.ErrPlan},
		{"into the midst of give", planOf(push(1)+skip(1)+give(0), "a"), api.ErrPlan},
		{"into the midst of give, further", planOf(push(1)+skip(2)+give(0), "a"), api.ErrPlan},
		{"into the midst, where an instruction could begin", planOf(push(1) + skip(1) + set(8) + set(1)), api.ErrPlan},
		{"into the midst of a skip", planOf(push(1) + skip(3) + push(1) + skip(0)), api.ErrPlan},
		{"into the midst of newer", planOf(push(1)+skip(4)+newer(0, 0)+skip(0), "a"), api.ErrPlan},
		{"over an instruction that pushes", planOf(push(1) + skip(2) + push(1) + skip(0)), api.ErrPlan},
		{"over one that pushes, at the end", planOf(push(1) + skip(2) + push(1)), api.ErrPlan},
		{"over one that takes", planOf(push(1) + push(1) + skip(3) + skip(0) + set(1)), api.ErrPlan},
		{"over one that takes, at the end", planOf(push(1) + push(1) + skip(3) + skip(0)), api.ErrPlan},
		{"over or", planOf(push(1) + push(1) + push(1) + skip(1) + or + skip(0)), api.ErrPlan},
		{"over both", planOf(push(1) + skip(5) + push(1) + skip(0) + set(1)), api.OK},
		{"over both, to the end", planOf(push(1) + skip(5) + push(1) + skip(0)), api.OK},
		{"v is 1 always, but the way counts", planOf(push(1) + skip(2) + push(1) + skip(0)), api.ErrPlan},
		{"v is 0 always, but the way counts", planOf(push(0) + skip(2) + push(1)), api.ErrPlan},
		{"two skips to one place, alike", planOf(push(1) + skip(7) + push(1) + skip(2) + set(1) + set(2)), api.OK},
		{"two skips to one place, on something", planOf(push(1) + push(1) + skip(5) + push(1) + skip(0) + skip(0)), api.OK},
		{"two skips to one place, one higher", planOf(push(1) + push(1) + skip(3) + skip(0) + set(1)), api.ErrPlan},
		{"two skips to one place, the first one higher", planOf(push(1) + push(1) + skip(5) + skip(2) + set(1) + set(2)), api.ErrPlan},
		{"the last way is the right one", planOf(push(1) + push(1) + skip(8) + skip(0) + push(1) + skip(0) + set(1)), api.ErrPlan},
		{"to a place that is higher than nothing", planOf(push(1) + push(1) + skip(2) + set(1) + skip(0)), api.OK},
		{"as far as can be", planOf(push(1) + skip(65535) + far[:65533] + set(1)), api.ErrPlan},
		{"as far as can be, sound", planOf(push(1) + skip(65535) + strings.Repeat(set(1), 32766) + give(0) + set(1)), api.ErrPlan},
		{"as far as can be, sound", planOf(push(1)+skip(65535)+strings.Repeat(set(1), 32766)+give(0)+set(1), "a"), api.OK},
		{"as far as can be, to the end", planOf(push(1)+skip(65535)+strings.Repeat(set(1), 32766)+give(0), "a"), api.OK},
		{"as far as can be, one beyond", planOf(push(1)+skip(65535)+strings.Repeat(set(1), 32767), "a"), api.ErrPlan},
	})
}

func TestCheckOfTheDocument(t *testing.T) {
	checkAll(t, []checkCase{
		{"0003", "P1\x00\x01\x00\x01a\x02\x00\x00\x06\x00\x03\x07\x00\x00", api.OK},
		{"0004", "P1\x00\x01\x00\x01a\x02\x00\x00\x06\x00\x04\x07\x00\x00", api.ErrPlan},
	})
}

func compareCheck(t *testing.T, p string) bool {
	t.Helper()
	want := api.ErrPlan
	if modelSound(p) {
		want = api.OK
	}
	if got := maker.Check(p); got != want {
		t.Fatalf("Check(%x) = %d, want %d", p, got, want)
	}
	return want == api.OK
}

func TestCheckAllSmallCodes(t *testing.T) {
	const bytes = 10
	sound := 0
	for size, count := 0, 1; size <= 5; size, count = size+1, count*bytes {
		code := make([]byte, size)
		for n := range count {
			for i := range code {
				code[i] = byte(n % bytes)
				n /= bytes
			}
			if compareCheck(t, planOf(string(code), "a", "b")) {
				sound++
			}
		}
	}
	if sound < 100 {
		t.Errorf("only %d were sound", sound)
	}
}

func TestCheckAllSmallForms(t *testing.T) {
	const letters = "\x00\x01\x02\x07P1"
	for size, count := 0, 1; size <= 5; size, count = size+1, count*len(letters) {
		rest := make([]byte, size)
		for n := range count {
			for i := range rest {
				rest[i] = letters[n%len(letters)]
				n /= len(letters)
			}
			compareCheck(t, "P1"+string(rest))
			compareCheck(t, "P1\x00"+string(rest))
			compareCheck(t, string(rest))
		}
	}
}

// smallMenu: what small plans are made of.
func smallMenu() []string {
	return []string{push(0), push(1), absent(0), or, skip(0), skip(1), skip(2), skip(3), skip(5), skip(6), skip(8), give(1), set(3), flag(3)}
}

// eachSmallPlan goes over all plans of that many instructions of the menu.
func eachSmallPlan(size int, do func(plan string)) {
	menu := smallMenu()
	count := 1
	for range size {
		count *= len(menu)
	}
	for n := range count {
		code := ""
		for range size {
			code += menu[n%len(menu)]
			n /= len(menu)
		}
		do(planOf(code, "a", "go"))
	}
}

func TestCheckAllSmallPlans(t *testing.T) {
	sound := 0
	for size := range 6 {
		eachSmallPlan(size, func(p string) {
			if compareCheck(t, p) {
				sound++
			}
		})
	}
	if sound < 1000 {
		t.Errorf("only %d were sound", sound)
	}
}

func TestCheckRandomPlans(t *testing.T) {
	r := rand.New(rand.NewSource(3))
	names := []string{"a", "b", "", "go", "\xff\x00"}
	bent := 0
	for range 40000 {
		p := planOf(randomBlock(r, len(names), 16, 4), names...)
		if !compareCheck(t, p) {
			t.Fatalf("%x was to be sound", p)
		}
		if !compareCheck(t, bend(r, p)) {
			bent++
		}
	}
	if bent < 10000 {
		t.Errorf("only %d were not sound", bent)
	}
}

func TestCheckOfAnyBytes(t *testing.T) {
	r := rand.New(rand.NewSource(4))
	for range 20000 {
		b := make([]byte, r.Intn(60))
		r.Read(b)
		compareCheck(t, string(b))
		compareCheck(t, "P1\x00\x00"+string(b))
		compareCheck(t, planOf(string(b), make([]string, 1000)...))
	}
}

func TestCheckOfLongPlans(t *testing.T) {
	many := strings.Repeat(push(1)+skip(2)+set(1), 300000)
	if errno := maker.Check(planOf(many)); errno != api.OK {
		t.Errorf("a long plan: %d", errno)
	}
	if errno := maker.Check(planOf(many + "\x08")); errno != api.ErrPlan {
		t.Errorf("a long plan with half an instruction: %d", errno)
	}
	ahead := strings.Repeat(push(0)+skip(1), 300000)
	if errno := maker.Check(planOf(ahead)); errno != api.ErrPlan {
		t.Errorf("a long plan of skips into instructions: %d", errno)
	}
}
