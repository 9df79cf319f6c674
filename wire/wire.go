// Package wire is layer 2, numbers, texts and messages as bytes: see shared/doc/02-wire.md.
package wire

import (
	"math/bits"

	"roundhouse/api"
)

const (
	maxWidth = 6 // how many bytes the greatest number has
	maxList  = 4096
)

// Num is a number's bytes.
func Num(n int) string {
	if !isNum(n) {
		return ""
	}
	width := (bits.Len(uint(n)) + 7) / 8
	out := make([]byte, 1+width)
	out[0] = byte(width)
	for i := range width {
		out[width-i] = byte(n >> (8 * i))
	}
	return string(out)
}

// Text is a text's bytes.
func Text(s string) string {
	if len(s) > api.MaxText {
		return ""
	}
	return Num(len(s)) + s
}

// List is a list's bytes.
func List(l []int) string {
	if len(l) > maxList {
		return ""
	}
	out := []byte(Num(len(l)))
	for _, n := range l {
		if !isNum(n) {
			return ""
		}
		out = append(out, Num(n)...)
	}
	return string(out)
}

// Encode is a message's bytes.
func Encode(m api.Msg) string {
	if !isMsg(m) {
		return ""
	}
	// A node's number goes as one more, as the controller's, -1, could not be written.
	out := ""
	for _, n := range [7]int{m.Kind, m.From + 1, m.To + 1, m.Job, m.Epoch, m.Step, m.Arg} {
		out += Num(n)
	}
	return out + Text(m.Text)
}

// Decode is the message whose bytes s is.
func Decode(s string) (api.Msg, api.Errno) {
	r := Read(s)
	m := api.Msg{
		Kind:  r.Num(),
		From:  r.Num() - 1,
		To:    r.Num() - 1,
		Job:   r.Num(),
		Epoch: r.Num(),
		Step:  r.Num(),
		Arg:   r.Num(),
		Text:  r.Text(),
	}
	if e, _ := r.End(); e != api.OK {
		return api.Msg{}, e
	}
	if !isMsg(m) {
		return api.Msg{}, api.ErrForm
	}
	return m, api.OK
}

// isNum says whether n may be written.
func isNum(n int) bool {
	return n >= 0 && n <= api.MaxNum
}

// isMsg says whether m may be written.
func isMsg(m api.Msg) bool {
	return m.Kind >= api.MsgProlog && m.Kind <= api.MsgGone &&
		isPlace(m.From) && isPlace(m.To) &&
		isNum(m.Job) && isNum(m.Epoch) && isNum(m.Step) && isNum(m.Arg) &&
		len(m.Text) <= api.MaxText
}

// isPlace says whether n is a node, or the controller.
func isPlace(n int) bool {
	return n >= -1 && n < api.MaxNodes
}
