package lines

import (
	"iter"
	"strings"
)

const goOn = `\`

// joined goes over the lines of a text, those that go on put together, each with the number of its first one.
func joined(text string) iter.Seq2[int, string] {
	return func(yield func(int, string) bool) {
		number, rest, more := 1, text, true
		for more {
			var whole string
			var used int
			whole, used, rest, more = takeLine(rest)
			if !yield(number, whole) {
				return
			}
			number += used
		}
	}
}

// takeLine takes the first line off a text.
// It tells the line, how many lines of the text went into it, the text behind, and whether there is one:
// behind a last 0a there still is one, an empty one.
func takeLine(text string) (string, int, string, bool) {
	piece, rest, more := strings.Cut(text, "\n")
	used := 1
	// A builder, as adding to a string again and again would take time by the square of the text.
	var whole strings.Builder
	for more && strings.HasSuffix(piece, goOn) {
		whole.WriteString(strings.TrimSuffix(piece, goOn))
		whole.WriteByte(' ')
		piece, rest, more = strings.Cut(rest, "\n")
		piece = cutFront(piece)
		used++
	}
	if !more {
		piece = strings.TrimRight(piece, goOn)
	}
	whole.WriteString(piece)
	return whole.String(), used, rest, more
}
