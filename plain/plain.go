// Package plain writes a text of rules in its plain form.
package plain

import (
	"strings"

	"maker/api"
	"maker/lines"
)

// Text tells the plain form of a text of rules; or the error, and the line where it was found.
func Text(text string) (string, api.Errno, int) {
	var out strings.Builder
	open := false
	for line, errno := range lines.All(text) {
		if errno != api.OK {
			return "", errno, line.Number
		}
		if line.Kind == lines.Command && !open {
			return "", api.ErrSyntax, line.Number
		}
		if line.Kind != lines.Command {
			open = line.Kind == lines.Rule
		}
		out.WriteString(closed(written(line)))
		out.WriteByte('\n')
	}
	return out.String(), api.OK, 0
}

func written(line lines.Line) string {
	switch line.Kind {
	case lines.Command:
		return "\t" + line.Right
	case lines.Include:
		return "include " + oneBlank(line.Right)
	case lines.Fixed:
		return sides(line.Left, ":=", line.Right)
	case lines.Late:
		return sides(line.Left, "=", line.Right)
	default:
		return sides(oneBlank(line.Left), ":", oneBlank(line.Right))
	}
}

func sides(left, sign, right string) string {
	if right == "" {
		return left + " " + sign
	}
	return left + " " + sign + " " + right
}

func oneBlank(text string) string { return strings.Join(lines.Words(text), " ") }

// closed keeps a line from going on when it is read again.
func closed(line string) string {
	if strings.HasSuffix(line, `\`) {
		return line + " "
	}
	return line
}
