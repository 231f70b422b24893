package code

import (
	"rondeau/api"
	"rondeau/crc"
	"rondeau/octet"
	"rondeau/varint"
)

// Print returns the encoding of a program.
func Print(p api.Program) (string, api.Errno) {
	if !encodable(p) {
		return "", api.ErrArg
	}
	var w octet.Writer
	w.Put(byte(len(p.Rings)))
	for _, r := range p.Rings {
		w.Put(byte(r.Kind), byte(r.Cap), byte(r.Readers))
	}
	w.Put(byte(len(p.Threads)))
	for _, l := range p.Threads {
		w.Text(varint.Print(uint64(len(l))))
		for _, i := range l {
			w.Put(byte(i.Op), byte(i.A), byte(i.B), byte(i.C), byte(i.D))
			w.Text(varint.Print(i.K))
		}
	}
	return w.String(), api.OK
}

// Read returns the program that has an encoding.
func Read(s string) (api.Program, api.Errno) {
	in := source{reader: octet.New(s)}
	p := in.program()
	if in.failed || in.reader.Left() > 0 || !encodable(p) {
		return api.Program{}, api.ErrForm
	}
	return p, api.OK
}

// Digest returns the checksum of a program's encoding.
func Digest(p api.Program) uint32 {
	text, _ := Print(p) // empty if there is none
	return crc.Sum(crc.Table(), text)
}

// encodable tells whether a program has an encoding.
func encodable(p api.Program) bool {
	if len(p.Rings) > api.MaxRings || len(p.Threads) > api.MaxThreads {
		return false
	}
	for _, r := range p.Rings {
		if !within(r.Kind, 255) || !within(r.Cap, 255) || !within(r.Readers, 255) {
			return false
		}
	}
	for _, l := range p.Threads {
		if len(l) > api.MaxCode {
			return false
		}
		for _, i := range l {
			if !Right(i) {
				return false
			}
		}
	}
	return true
}

// source reads parts of a program, and keeps in mind whether one failed.
type source struct {
	reader *octet.Reader
	failed bool
}

func (in *source) program() api.Program {
	var p api.Program
	for range in.count(uint64(in.byte()), api.MaxRings) {
		p.Rings = append(p.Rings, api.Ring{Kind: in.byte(), Cap: in.byte(), Readers: in.byte()})
	}
	for range in.count(uint64(in.byte()), api.MaxThreads) {
		p.Threads = append(p.Threads, in.thread())
	}
	return p
}

func (in *source) thread() []api.Instr {
	var l []api.Instr
	for range in.count(in.number(), api.MaxCode) {
		l = append(l, api.Instr{Op: in.byte(), A: in.byte(), B: in.byte(), C: in.byte(), D: in.byte(), K: in.number()})
	}
	return l
}

// count checks a number of parts, and returns none once something failed.
func (in *source) count(n, most uint64) int {
	if n > most {
		in.failed = true
	}
	if in.failed {
		return 0
	}
	return int(n)
}

func (in *source) byte() int {
	b, err := in.reader.Byte()
	in.failed = in.failed || err != api.OK
	return int(b)
}

func (in *source) number() uint64 {
	n, err := varint.Read(in.reader)
	in.failed = in.failed || err != api.OK
	return n
}
