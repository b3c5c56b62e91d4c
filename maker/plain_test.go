package maker_test

import (
	"math/rand"
	"strings"
	"testing"
	"time"

	"maker/api"
	"maker/maker"
)

func wantPlain(t *testing.T, text, want string) {
	t.Helper()
	if got, errno, line := maker.Plain(text); got != want || errno != api.OK || line != 0 {
		t.Errorf("P2: Plain(%.80q) = %.80q, %d, %d, want %.80q", text, got, errno, line, want)
	}
	if got, errno, line := maker.Plain(want); got != want || errno != api.OK || line != 0 {
		t.Errorf("P2: Plain(%.80q) = %.80q, %d, %d: it is plain", want, got, errno, line)
	}
}

func wantSyntax(t *testing.T, text string, want int) {
	t.Helper()
	if got, errno, line := maker.Plain(text); got != "" || errno != api.ErrSyntax || line != want {
		t.Errorf("P2: Plain(%.80q) = %.80q, %d, %d, want ErrSyntax in line %d", text, got, errno, line, want)
	}
}

func TestPlainNothing(t *testing.T) {
	for _, text := range []string{"", "\n", "\n\n", " ", "\t", " \t ", "\t \t", "#", " # a", "# a : b = c", "#\\\na:b", "\\", "\\\\\\", "\\\n", "\\\n\\\n", "\t\\\n\t\\", "\t\n\n \n#\n"} {
		wantPlain(t, text, "")
	}
}

func TestPlainCommands(t *testing.T) {
	for _, c := range [][2]string{
		{"a:\n\tgo", "a :\n\tgo\n"},
		{"a:\n\t \t go  on\t ", "a :\n\tgo  on\t \n"},
		{"a:\n\tgo # on", "a :\n\tgo # on\n"},
		{"a:\n\t# on", "a :\n\t# on\n"},
		{"a:\n\tinclude", "a :\n\tinclude\n"},
		{"a:\n\tb : c", "a :\n\tb : c\n"},
		{"a:\n\tgo\n\tgo\n\ton", "a :\n\tgo\n\tgo\n\ton\n"},
		{"a:\n\n \n# x\n\t\n\tgo", "a :\n\tgo\n"},
		{"a:\nb:\n\tgo", "a :\nb :\n\tgo\n"},
		{"a:\n\tgo\nA=1\nb:\n\tgo", "a :\n\tgo\nA = 1\nb :\n\tgo\n"},
		{".PHONY:a\n\tgo", ".PHONY : a\n\tgo\n"},
		{"A=1\n\t \n", "A = 1\n"},
	} {
		wantPlain(t, c[0], c[1])
	}
}

func TestPlainIncludes(t *testing.T) {
	for _, c := range [][2]string{
		{"include x", "include x\n"},
		{" \tinclude x", "include x\n"},
		{" include\tx \t y # z", "include x y\n"},
		{"include : x", "include : x\n"},
		{"include =", "include =\n"},
		{"include include", "include include\n"},
		{"include $(A)\\\n b", "include $(A) b\n"},
		{"include\\\nb", "include b\n"},
		{"included:x", "included : x\n"},
		{"Include:x", "Include : x\n"},
		{"include.x include:x", "include.x include : x\n"},
		{"xinclude=", "xinclude =\n"},
		{"include x\\ # y", "include x\\ \n"},
	} {
		wantPlain(t, c[0], c[1])
	}
}

func TestPlainAssignments(t *testing.T) {
	for _, c := range [][2]string{
		{"N=a", "N = a\n"},
		{"N:=a", "N := a\n"},
		{"\x20\tN \t=\t a  \t b\t# c", "N = a  \t b\n"},
		{" N :=  a\tb ", "N := a\tb\n"},
		{"N=", "N =\n"},
		{"N := # x", "N :=\n"},
		{"N==a", "N = =a\n"},
		{"N=:a", "N = :a\n"},
		{"N:==a", "N := =a\n"},
		{"N:=:a", "N := :a\n"},
		{"N=a=b:c", "N = a=b:c\n"},
		{"_=$(X", "_ = $(X\n"},
		{"a9_Z=1", "a9_Z = 1\n"},
		{"N=include", "N = include\n"},
		{"N=a\\\n\t b", "N = a b\n"},
		{"N=a \\\n\\\n\nM=", "N = a\nM =\n"},
		{"N=\\ ", "N = \\ \n"},
		{"N:=a\\\\\t", "N := a\\\\ \n"},
	} {
		wantPlain(t, c[0], c[1])
	}
	for n := 1; n <= api.MaxName; n++ {
		name := strings.Repeat("N", n)
		wantPlain(t, name+"=x", name+" = x\n")
		wantPlain(t, name+":=x", name+" := x\n")
	}
}

func TestPlainRules(t *testing.T) {
	for _, c := range [][2]string{
		{"a:b", "a : b\n"},
		{"a:", "a :\n"},
		{"a : # b", "a :\n"},
		{" \x20a \t b\t:\tc \t d ", "a b : c d\n"},
		{"a: =b", "a : =b\n"},
		{"a::=b", "a : :=b\n"},
		{"a::b", "a : :b\n"},
		{"a:b=c", "a : b=c\n"},
		{"a-b.c/%:$(x) %", "a-b.c/% : $(x) %\n"},
		{"0123456789abcdefg:", "0123456789abcdefg :\n"},
		{"a include:include", "a include : include\n"},
		{"a\\ :b", "a\\ : b\n"},
		{"a:b\\ ", "a : b\\ \n"},
		{"a:b\\\t# c", "a : b\\ \n"},
		{"a:\r\v\f\u00a0", "a : \r\v\f\u00a0\n"},
		{"\xff\x00:\xfe", "\xff\x00 : \xfe\n"},
	} {
		wantPlain(t, c[0], c[1])
	}
}

func TestPlainGoingOn(t *testing.T) {
	for _, c := range [][2]string{
		{"a:\\", "a :\n"},
		{"a:b\\\\\\", "a : b\n"},
		{"a:b\\\n", "a : b\n"},
		{"a:b\\\\\n", "a : b\\ \n"},
		{"a:b\\\\\n\\\\", "a : b\\ \n"},
		{"a:b\\\n\\\n\\\nc", "a : b c\n"},
		{"a:b\\\nc:\nd:", "a : b c:\nd :\n"},
		{"a\\\n:b", "a : b\n"},
		{"a:\n\tgo\\\n", "a :\n\tgo \n"},
		{"a:\n\tgo\\\\\n", "a :\n\tgo\\ \n"},
		{"a:\n\tgo\\\\\\\n on\\\\", "a :\n\tgo\\\\ on\n"},
		{"a:\n\tgo\\\n \t # on \\\n\t\\\nx", "a :\n\tgo # on   x\n"},
		{"a:\n\t\\\n go", "a :\n\tgo\n"},
		{"a:b # c\\\nd:e\nf:", "a : b\nf :\n"},
	} {
		wantPlain(t, c[0], c[1])
	}
}

func TestPlainNoLine(t *testing.T) {
	for _, line := range []string{
		"x", "x y", " x", "x # : y", "\x20\tx",
		":", ":x", " : x",
		"=", "=x", ":=", ":=x", " = x", "A B=c", "A B:=c", "A-=c", "A.:=c", "$(A)=c", "é=c", "A\xff=c", "a\r=c",
		"0123456789abcdefg=x", "0123456789abcdefg:=x",
		"include", " include ", "include#x", "include # x", "include\\\n",
		"include:", "include: x", "include=x", "include:=x", "include:=",
		"\tgo", "\t#", "\t x:y", "\tx=y",
	} {
		wantSyntax(t, line, 1)
		wantSyntax(t, "A=1\nB=\\\n\\\n2\n\n"+line, 6)
		wantSyntax(t, "A=1\n"+line+"\nx\n\tgo", 2)
	}
}

func TestPlainNoLineAtTheEnd(t *testing.T) {
	wantSyntax(t, "a:\ninclude \\", 2)
	wantSyntax(t, "a:\ninclude\\\\", 2)
	wantSyntax(t, "a:\nx\\\n", 2)
}

func TestPlainCommandOfNoRule(t *testing.T) {
	wantSyntax(t, "a:\nA=1\n\tgo", 3)
	wantSyntax(t, "a:\nA:=1\n\n# x\n\t\n\tgo", 6)
	wantSyntax(t, "a:\n\tgo\ninclude x\n\tgo", 4)
	wantSyntax(t, "a:\nA=\\\n\n\tgo\\\n on", 4)
	wantSyntax(t, "\n\\\n\n\n\tgo", 5)
}

// model tells the plain form anew, as the document's words go, step by step and without the program's packages.
func model(text string) (string, api.Errno, int) {
	raw := strings.Split(text, "\n")
	out, open := "", false
	for i := 0; i < len(raw); i++ {
		first, line := i+1, raw[i]
		for line != "" && line[len(line)-1] == '\\' {
			if i+1 == len(raw) {
				line = line[:len(line)-1]
				continue
			}
			i++
			line = line[:len(line)-1] + " " + strings.TrimLeft(raw[i], " \t")
		}
		if line != "" && line[0] == '\t' {
			command := strings.TrimLeft(line, " \t")
			if command == "" {
				continue
			}
			if !open {
				return "", api.ErrSyntax, first
			}
			out += "\t" + command + "\n"
			continue
		}
		plain, rule := modelLine(line)
		if plain == "?" {
			return "", api.ErrSyntax, first
		}
		if plain == "" {
			continue
		}
		if plain[len(plain)-1] == '\\' {
			plain += " "
		}
		open = rule
		out += plain + "\n"
	}
	return out, api.OK, 0
}

// modelLine tells the plain form of a line that is no command: nothing, or "?" where it is no line; and whether it is a rule.
func modelLine(line string) (string, bool) {
	one := func(s string) string {
		s = strings.ReplaceAll(s, "\t", " ")
		for strings.Contains(s, "  ") {
			s = strings.ReplaceAll(s, "  ", " ")
		}
		return s
	}
	for i := range len(line) {
		if line[i] == '#' {
			line = line[:i]
			break
		}
	}
	line = strings.Trim(line, " \t")
	switch {
	case line == "":
		return "", false
	case line == "include":
		return "?", false
	case strings.HasPrefix(line, "include ") || strings.HasPrefix(line, "include\t"):
		return one(line), false
	}
	for i := range len(line) {
		if line[i] != '=' && line[i] != ':' {
			continue
		}
		left, sign, right := line[:i], line[i:i+1], line[i+1:]
		if sign == ":" && right != "" && right[0] == '=' {
			sign, right = ":=", right[1:]
		}
		left, right = strings.Trim(left, " \t"), strings.Trim(right, " \t")
		if left == "" || left == "include" {
			return "?", false
		}
		if sign == ":" {
			return strings.TrimRight(one(left)+" : "+one(right), " "), true
		}
		const letters = "ABCDEFGHIJKLMNOPQRSTUVWXYZabcdefghijklmnopqrstuvwxyz0123456789_"
		if len(left) > 16 || strings.Trim(left, letters) != "" {
			return "?", false
		}
		return strings.TrimRight(left+" "+sign+" "+right, " "), false
	}
	return "?", false
}

// look holds what is promised of any text against one text.
func look(t *testing.T, text string) {
	got, errno, line := maker.Plain(text)
	want, wantErrno, wantLine := model(text)
	if got != want || errno != wantErrno || line != wantLine {
		t.Fatalf("P2: Plain(%q) = %q, %d, %d, want %q, %d, %d", text, got, errno, line, want, wantErrno, wantLine)
	}
	again, againErrno, againLine := maker.Plain(text)
	if again != got || againErrno != errno || againLine != line {
		t.Fatalf("P1: Plain(%q) = %q, %d, %d and then %q, %d, %d", text, got, errno, line, again, againErrno, againLine)
	}
	if errno != api.OK {
		if got != "" || line < 1 || line > 1+strings.Count(text, "\n") {
			t.Fatalf("P1: Plain(%q) = %q, %d, %d", text, got, errno, line)
		}
		return
	}
	if line != 0 {
		t.Fatalf("P1: Plain(%q): the line %d without an error", text, line)
	}
	if twice, errno, line := maker.Plain(got); twice != got || errno != api.OK || line != 0 {
		t.Fatalf("P2: Plain(%q) = %q, %d, %d: it is plain", got, twice, errno, line)
	}
}

func lookAtAll(t *testing.T, text string, pieces []string, most int) {
	look(t, text)
	if most == 0 {
		return
	}
	for _, piece := range pieces {
		lookAtAll(t, text+piece, pieces, most-1)
	}
}

func TestPlainAllSmallTexts(t *testing.T) {
	pieces := []string{"a", "include", " ", "\t", "\n", "\\", "#", ":", "="}
	lookAtAll(t, "", pieces, 5)
	lookAtAll(t, "a:\n", pieces, 5)
}

func TestPlainAnyBytes(t *testing.T) {
	random := rand.New(rand.NewSource(1))
	pieces := []string{"a", "B_9", "include", "include ", " ", "\t", "\n", "\n\t", "\\", "\\\n", "#", ":", "=", ":=", ":\n", "=\n", "\r", "\x00", "\xff", "é", "$(", "%", "0123456789abcdef"}
	for range 20000 {
		var text strings.Builder
		for range random.Intn(30) {
			text.WriteString(pieces[random.Intn(len(pieces))])
		}
		look(t, text.String())
		bytes := make([]byte, random.Intn(40))
		random.Read(bytes)
		look(t, string(bytes))
	}
	for b := range 256 {
		look(t, string([]byte{byte(b)}))
		look(t, string([]byte{byte(b), '=', byte(b)}))
		look(t, string([]byte{'a', byte(b), ':', byte(b), 'b', byte(b)}))
		look(t, "include"+string([]byte{byte(b), 'x'}))
	}
}

func TestPlainLongTexts(t *testing.T) {
	const many = 1 << 20
	start := time.Now()
	wantPlain(t, strings.Repeat("\\\n", many), "")
	wantPlain(t, "a:"+strings.Repeat("\\", many), "a :\n")
	wantPlain(t, "a:"+strings.Repeat("\\\n", many)+"b", "a : b\n")
	wantPlain(t, "a:"+strings.Repeat(" \\\nb", many), "a :"+strings.Repeat(" b", many)+"\n")
	wantPlain(t, "a:\n"+strings.Repeat("\tgo\n", many), "a :\n"+strings.Repeat("\tgo\n", many))
	wantSyntax(t, strings.Repeat("\n", many)+"x", many+1)
	wantSyntax(t, strings.Repeat("x", many), 1)
	if spent := time.Since(start); spent > time.Minute {
		t.Errorf("P1: long texts took %v", spent)
	}
}
