package wire

import "roundhouse/api"

// Reader takes from the front of bytes.
type Reader struct {
	bytes string
	at    int
	first fault
}

// fault is what goes up by a panic: an error, and the place where what is wrong begins.
type fault struct {
	err api.Errno
	at  int
}

// Read is a reader at the front of s.
func Read(s string) *Reader {
	return &Reader{bytes: s}
}

// Num takes a number.
func (r *Reader) Num() (n int) {
	r.guard(func() { n = r.num() })
	return n
}

// Text takes a text.
func (r *Reader) Text() (s string) {
	r.guard(func() { s = r.text() })
	return s
}

// List takes a list of at most so many numbers.
func (r *Reader) List(most int) (l []int) {
	r.guard(func() { l = r.list(most) })
	return l
}

// End tells the first error and its place, or whether bytes are left.
func (r *Reader) End() (api.Errno, int) {
	switch {
	case r == nil:
		return api.ErrArg, 0
	case r.first.err != api.OK:
		return r.first.err, r.first.at
	case r.at < len(r.bytes):
		return api.ErrLeft, r.at
	}
	return api.OK, len(r.bytes)
}

// guard takes, unless there is an error already, and keeps the fault that goes up from it.
// What take was to set stays zero then, as nothing is set before all of it is taken.
func (r *Reader) guard(take func()) {
	if r == nil || r.first.err != api.OK {
		return
	}
	defer func() {
		if f, ok := recover().(fault); ok {
			r.first = f
		}
	}()
	take()
}

// num takes a number; what is wrong with it goes up.
func (r *Reader) num() int {
	from := r.at
	if from == len(r.bytes) {
		panic(fault{api.ErrCut, from})
	}
	width := int(r.bytes[from])
	if width > maxWidth {
		panic(fault{api.ErrLong, from})
	}
	if width > len(r.bytes)-from-1 {
		panic(fault{api.ErrCut, from})
	}
	n := 0
	for i := range width {
		n = n<<8 | int(r.bytes[from+1+i])
	}
	// A first byte 0 would be a second way to write the number.
	if width > 0 && r.bytes[from+1] == 0 || n > api.MaxNum {
		panic(fault{api.ErrLong, from})
	}
	r.at = from + 1 + width
	return n
}

// count takes the number of things that follow, of which there may be so many.
func (r *Reader) count(most int) int {
	from := r.at
	n := r.num()
	if n > most {
		panic(fault{api.ErrLong, from})
	}
	return n
}

// text takes a text; what is wrong with it goes up.
func (r *Reader) text() string {
	n := r.count(api.MaxText)
	from := r.at
	if n > len(r.bytes)-from {
		panic(fault{api.ErrCut, from})
	}
	r.at = from + n
	return r.bytes[from:r.at]
}

// list takes a list; what is wrong with it goes up.
func (r *Reader) list(most int) []int {
	// No room is made ahead: the count may be far above what the bytes hold.
	var l []int
	for range r.count(most) {
		l = append(l, r.num())
	}
	return l
}
