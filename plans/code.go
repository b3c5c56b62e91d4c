package plans

import "iter"

// Op is the byte with which an instruction begins.
type Op byte

const (
	Push Op = iota + 1
	Absent
	Newer
	Flag
	Or
	Skip
	Give
	Set
)

// Instruction is an instruction of a plan's code.
type Instruction struct {
	Op     Op
	At     int // where in the code it begins
	Next   int // where the one behind it begins
	First  int // its operands; 0 where it has none
	Second int
}

// Instructions goes over the instructions of a code.
// It ends with the first one that is not whole, or is none: false is told beside it.
func Instructions(code string) iter.Seq2[Instruction, bool] {
	return func(yield func(Instruction, bool) bool) {
		for at := 0; at < len(code); {
			instruction, ok := instructionAt(code, at)
			if !yield(instruction, ok) || !ok {
				return
			}
			at = instruction.Next
		}
	}
}

func instructionAt(code string, at int) (Instruction, bool) {
	op := Op(code[at])
	first, second, ok := widths(op)
	next := at + 1 + first + second
	if !ok || next > len(code) {
		return Instruction{}, false
	}
	return Instruction{
		Op:     op,
		At:     at,
		Next:   next,
		First:  number(code[at+1 : at+1+first]),
		Second: number(code[at+1+first : next]),
	}, true
}

// widths tells how many bytes an instruction's two operands have, and whether there is such an instruction.
func widths(op Op) (int, int, bool) {
	switch op {
	case Push, Flag, Set:
		return 1, 0, true
	case Absent, Skip, Give:
		return 2, 0, true
	case Newer:
		return 2, 2, true
	case Or:
		return 0, 0, true
	}
	return 0, 0, false
}

func number(bytes string) int {
	n := 0
	for i := range len(bytes) {
		n = n<<8 | int(bytes[i])
	}
	return n
}
