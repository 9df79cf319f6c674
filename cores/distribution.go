package cores

import "roundhouse/api"

// distribution is an order of a layout's cores.
type distribution struct {
	cores func(yield func(c int) bool)
}

// distributionOf is the distribution of that number, on a layout that may be.
func distributionOf(l Layout, dist int) (distribution, api.Errno) {
	if Check(l) != api.OK {
		return distribution{}, api.ErrArg
	}
	switch dist {
	case api.Block:
		return distribution{cores: block(l)}, api.OK
	case api.Cyclic:
		return distribution{cores: cyclic(l)}, api.OK
	}
	return distribution{}, api.ErrArg
}

// block yields the cores rising, socket by socket.
func block(l Layout) func(yield func(c int) bool) {
	return func(yield func(c int) bool) {
		for c := range count(l) {
			if !yield(c) {
				return
			}
		}
	}
}

// cyclic yields the cores by their place in their socket: all sockets' first ones come first.
func cyclic(l Layout) func(yield func(c int) bool) {
	return func(yield func(c int) bool) {
		for place := range l.Per {
			for socket := range l.Sockets {
				if !yield(socket*l.Per + place) {
					return
				}
			}
		}
	}
}
