package thread

import "rondeau/api"

// matches tells whether a valid event is one that a thread requests.
func matches(e api.Event, ask Ask) bool {
	switch e.Kind {
	case api.EClaim:
		return ask.Kind == Send && ask.Ring == e.Ring
	case api.ETake:
		return ask.Kind == Recv && ask.Ring == e.Ring
	case api.EPublish:
		return ask.Kind == Publish && ask.Ring == e.Ring && ask.Ticket == e.Ticket
	case api.ERelease:
		return ask.Kind == Release && ask.Ring == e.Ring && ask.Ticket == e.Ticket
	case api.EClose:
		return ask.Kind == Close && ask.Ring == e.Ring
	case api.ENo:
		return moves(ask) && ask.Ring == e.Ring && ask.Mode == api.MTry
	case api.EShut:
		return moves(ask) && ask.Ring == e.Ring
	case api.ETime:
		return moves(ask) && ask.Ring == e.Ring && ask.Mode == api.MTimed
	case api.ESee:
		return ask.Kind == See && ask.Value == e.Value
	}
	return ask.Kind == alone(e.Kind)
}

// moves tells whether a thread requests to send or to receive.
func moves(ask Ask) bool { return ask.Kind == Send || ask.Kind == Recv }

// alone returns the request that events of a kind match whatever they name.
func alone(kind int) int {
	switch kind {
	case api.EClock:
		return Clock
	case api.EDraw:
		return Draw
	case api.ERead, api.EEnd:
		return Read
	case api.EHalt:
		return Halt
	}
	return Spin
}

// finish ends a visible instruction by an event that matched.
func finish(i api.Instr, s *api.ThreadState, e api.Event, v uint64) {
	switch e.Kind {
	case api.EPublish:
		s.Regs[i.B] = api.SOk
	case api.ERelease:
		s.Regs[i.A] = v
		s.Regs[i.B] = api.SOk // last, as A and B may be one register
	case api.ENo:
		s.Regs[i.B] = api.SNo
	case api.EShut:
		s.Regs[i.B] = api.SClosed
	case api.ETime:
		s.Regs[i.B] = api.STime
	case api.EClock, api.EDraw:
		s.Regs[i.A] = e.Value
	case api.ERead:
		s.Regs[i.A] = e.Value
		s.Regs[i.B] = 0
	case api.EEnd:
		s.Regs[i.B] = 1
	case api.ESee:
		s.Seen = append(s.Seen, e.Value)
	}
	s.At++
	s.Phase, s.Ring, s.Ticket = between, 0, 0
}
