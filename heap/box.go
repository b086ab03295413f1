package heap

const maxRoom = 1024

// Box is a mailbox. What is sent is a pointer to a copy: a channel of the things themselves may not be of a type of more than 64 kB.
type Box[T any] struct {
	things chan *T
}

// NewBox is an empty one with room for so many.
func NewBox[T any](room int) *Box[T] {
	if room < 1 || room > maxRoom {
		return nil
	}
	return &Box[T]{things: make(chan *T, room)}
}

// Put puts one in, if there is room.
func (b *Box[T]) Put(x T) bool {
	select {
	case b.things <- &x:
		return true
	default:
		return false
	}
}

// Take takes the eldest out, if there is one.
func (b *Box[T]) Take() (T, bool) {
	select {
	case x := <-b.things:
		return *x, true
	default:
		var none T
		return none, false
	}
}

// Len tells how many there are.
func (b *Box[T]) Len() int { return len(b.things) }
