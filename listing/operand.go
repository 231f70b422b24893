package listing

import (
	"strconv"

	"rondeau/api"
)

// operand says how an operand of an instruction is written, and how a word
// is read into an instruction.
type operand struct {
	write func(i api.Instr) string
	read  func(i *api.Instr, word string) bool
}

// operands returns those of an instruction, in the order of its line.
func operands(op int) []operand {
	a := register(func(i *api.Instr) *int { return &i.A })
	b := register(func(i *api.Instr) *int { return &i.B })
	c := register(func(i *api.Instr) *int { return &i.C })
	switch op {
	case api.OSet, api.OJz, api.OJnz:
		return []operand{a, number()}
	case api.OMov, api.ORead:
		return []operand{a, b}
	case api.OJmp:
		return []operand{number()}
	case api.OSend:
		return []operand{a, b, ring(), mode()}
	case api.ORecv:
		return []operand{a, b, ring(), mode(), number()}
	case api.OClose:
		return []operand{ring()}
	case api.OClock, api.ODraw, api.OSee:
		return []operand{a}
	case api.OHalt:
		return nil
	}
	return []operand{a, b, c}
}

// register is an operand that names a register in a field.
func register(field func(*api.Instr) *int) operand {
	return operand{
		write: func(i api.Instr) string { return "r" + strconv.Itoa(*field(&i)) },
		read: func(i *api.Instr, word string) bool {
			if word == "" || word[0] != 'r' {
				return false
			}
			return readInt(field(i), word[1:])
		},
	}
}

// ring is the operand C, where it names a ring.
func ring() operand {
	return operand{
		write: func(i api.Instr) string { return strconv.Itoa(i.C) },
		read:  func(i *api.Instr, word string) bool { return readInt(&i.C, word) },
	}
}

// mode is the operand D: how a send or a receive waits.
func mode() operand {
	names := [...]string{api.MTry: "try", api.MWait: "wait", api.MTimed: "timed"}
	return operand{
		write: func(i api.Instr) string { return names[i.D] },
		read: func(i *api.Instr, word string) bool {
			for n, name := range names {
				if name == word {
					i.D = n
					return true
				}
			}
			return false
		},
	}
}

// number is the operand K: a number, a position or a reader.
func number() operand {
	return operand{
		write: func(i api.Instr) string { return strconv.FormatUint(i.K, 10) },
		read: func(i *api.Instr, word string) bool {
			n, ok := decimal(word)
			i.K = n
			return ok
		},
	}
}

// readInt reads a number of one digit: registers and rings have no greater ones.
func readInt(into *int, word string) bool {
	n, ok := decimal(word)
	if !ok || n > 9 {
		return false
	}
	*into = int(n)
	return true
}

// decimal returns the number of a word that is written as numbers are.
func decimal(word string) (uint64, bool) {
	n, err := strconv.ParseUint(word, 10, 64)
	if err != nil || strconv.FormatUint(n, 10) != word {
		return 0, false
	}
	return n, true
}
