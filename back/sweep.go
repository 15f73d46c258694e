package back

import (
	"carousel/api"
	"carousel/tape"
	"carousel/tens"
)

// sweep is on its way back over a tape: the gradients so far, and which nodes were given anything.
type sweep struct {
	tape      *tape.Tape
	gradients []api.Tensor
	given     []bool
}

// start gives root a One of its own shape, and all nodes ahead of it noughts.
func start(t *tape.Tape, root int) (*sweep, api.Errno) {
	s := &sweep{tape: t, gradients: make([]api.Tensor, root+1), given: make([]bool, root+1)}
	for n := range s.gradients {
		value, _ := t.Value(n)
		noughts, err := tens.New(value.Dims, 0)
		if err != api.OK {
			return nil, err
		}
		s.gradients[n] = noughts
	}
	s.gradients[root].V[0] = api.One
	s.given[root] = true
	return s, api.OK
}

// passOn lets a node give its two what its gradient comes to for them. Those stand ahead of it, so
// that by then nothing more will be given to it.
func (s *sweep) passOn(n int) api.Errno {
	if !s.given[n] {
		return api.OK
	}
	node, _ := s.tape.At(n)
	forA, forB, err := give(s.tape, node, s.gradients[n])
	if err != api.OK {
		return err
	}
	if err := s.add(node.A, forA); err != api.OK {
		return err
	}
	return s.add(node.B, forB)
}

// add adds to the gradient of a node, if there is one.
func (s *sweep) add(n int, more api.Tensor) api.Errno {
	if n < 0 {
		return api.OK
	}
	sum, err := tens.Add(s.gradients[n], more)
	if err != api.OK {
		return err
	}
	s.gradients[n], s.given[n] = sum, true
	return api.OK
}
