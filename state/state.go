// Package state numbers how a ticket may be, for all layers that ask its words, or turn them.
package state

// State is how a ticket is, as its state word tells it.
type State int

// The states, in the order that a ticket goes through them; behind the last one it is free again, and so it is behind Busy, if what it was claimed for is refused.
const (
	Free State = iota
	Busy
	Live
	Ending
)
