package plans

import "maker/api"

// Writer writes a plan, instruction by instruction.
type Writer struct {
	numbers map[string]int // by a string: which one of the plan's it is
	strings []string
	code    []byte
	failed  bool // something is more than a plan can tell
}

// NewWriter makes a writer of a plan without strings and code.
func NewWriter() *Writer { return &Writer{numbers: map[string]int{}} }

// String tells the number by which instructions name a string.
func (w *Writer) String(text string) int {
	number, ok := w.numbers[text]
	if !ok {
		number = len(w.strings)
		w.numbers[text] = number
		w.strings = append(w.strings, text)
	}
	return number
}

// Add writes an instruction; operands that are not told are 0.
func (w *Writer) Add(op Op, operands ...int) {
	first, second, _ := widths(op)
	w.code = append(w.code, byte(op))
	for i, width := range []int{first, second} {
		operand := 0
		if i < len(operands) {
			operand = operands[i]
		}
		w.code = append(w.code, w.bytes(operand, width)...)
	}
}

// AddSkip writes a skip, and behind it what block writes: that is what may be left out.
func (w *Writer) AddSkip(block func()) {
	w.Add(Skip)
	from := len(w.code)
	block()
	copy(w.code[from-2:], w.bytes(len(w.code)-from, 2))
}

// Text tells the plan, and whether it could be written.
func (w *Writer) Text() (string, bool) {
	out := append([]byte(mark), w.bytes(len(w.strings), 2)...)
	for _, text := range w.strings {
		out = append(out, w.bytes(len(text), 2)...)
		out = append(out, text...)
	}
	if w.failed || len(w.strings) > api.MaxStrings {
		return "", false
	}
	return string(append(out, w.code...)), true
}

// bytes tells a number in so many bytes, the high one first.
func (w *Writer) bytes(n, width int) []byte {
	w.failed = w.failed || n>>(8*width) != 0
	out := make([]byte, width)
	for i := range out {
		out[i] = byte(n >> (8 * (width - 1 - i)))
	}
	return out
}
