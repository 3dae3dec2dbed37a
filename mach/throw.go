package mach

import (
	"davit/api"
	"davit/frame"
)

// throw leaves all frames where they are if nobody catches: the first phase comes ahead of any cleanup.
func (s *machine) throw(n uint16) {
	s.pop()
	if !s.isCaught(n) {
		s.finish(api.Thrown, n)
		return
	}
	for {
		f := s.top()
		if pad, ok := s.pad(*f); ok && (pad.Cleanup || frame.Catches(pad, n)) {
			s.land(f, pad, n)
			return
		}
		s.pop()
	}
}

func (s *machine) isCaught(n uint16) bool {
	for _, f := range s.Stack {
		if pad, ok := s.pad(f); ok && frame.Catches(pad, n) {
			return true
		}
	}
	return false
}

// pad of the Invoke at which a frame stands: it had another one above it, so it stands there, or else at a Call.
func (s *machine) pad(f api.Frame) (api.Pad, bool) {
	b := s.block(f)
	if f.At < len(b.Ins) {
		return api.Pad{}, false
	}
	return s.module.Funcs[f.F].Blocks[b.End.Pad].Pad, true
}

func (s *machine) land(f *api.Frame, pad api.Pad, n uint16) {
	*f = frame.Go(*f, s.block(*f).End.Pad)
	f.Regs[pad.Dst] = n
	f.Fly = n
}
