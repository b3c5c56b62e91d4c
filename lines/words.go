package lines

import (
	"strings"

	"maker/api"
)

// Only these two count as blanks: what the library takes for space is more.
const blanks = " \t"

func isBlank(r rune) bool { return r == ' ' || r == '\t' }

// Cut takes the blanks off both ends of a text.
func Cut(text string) string { return strings.Trim(text, blanks) }

func cutFront(text string) string { return strings.TrimLeft(text, blanks) }

// Words tells what stands between the blanks of a text.
func Words(text string) []string { return strings.FieldsFunc(text, isBlank) }

// IsName tells whether a text is a name.
func IsName(text string) bool {
	if text == "" || len(text) > api.MaxName {
		return false
	}
	for _, r := range text {
		if !isLetter(r) {
			return false
		}
	}
	return true
}

func isLetter(r rune) bool {
	return r >= 'A' && r <= 'Z' || r >= 'a' && r <= 'z' || r >= '0' && r <= '9' || r == '_'
}
