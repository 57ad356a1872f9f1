// Package downlink is what hubs and offices have in common: the nodes below them, each with a number, and their own ends of the links to these.
package downlink

import (
	"farebox/api"
	"farebox/link"
)

// End is a node's end of the link to one below it: it receives what that sends, and answers.
type End struct {
	*link.Receiver
	secret string
}

// Ends are those of the links to the nodes with such numbers, by these. Secret is that of all seals; it and the numbers may be.
func Ends(secret string, numbers []int) map[int]End {
	ends := map[int]End{}
	for _, number := range numbers {
		own, _ := link.Secret(secret, number)
		ends[number] = End{link.NewReceiver(), own}
	}
	return ends
}

// Parse is a frame that came up.
func (e End) Parse(b []byte) (api.Frame, api.Errno) { return link.Parse(e.secret, b) }

// Answer are the bytes of a frame that may be, the only one that answers.
func (e End) Answer(f api.Frame) [][]byte {
	b, _ := link.Make(e.secret, f)
	return [][]byte{b}
}

// Acknowledge answers items: up to which number all were taken. There is such a number, as soon as a frame with items was got.
func (e End) Acknowledge() [][]byte {
	ack, _ := e.Ack()
	return e.Answer(ack)
}
