package machine

import (
	"errors"
	"strconv"

	"purser/ledger"
)

// Why a frame ends badly.
var (
	ErrNoInstruction = errors.New("no instruction")
	ErrFewWords      = errors.New("too few words")
	ErrManyWords     = errors.New("too many words")
	ErrNoGas         = errors.New("not gas enough")
	ErrNoMark        = errors.New("no mark")
)

// End is how a call ended: Well or Badly.
type End interface {
	// Left is the gas that comes back to the one who called.
	Left() int
}

// Well is the end of a frame that is done, with the gas that it has left and what it gives.
type Well struct {
	Gas int
	Out string
}

// Badly is the end of a frame that went wrong, or of a call that no frame was begun for, with the gas that there was and why.
type Badly struct {
	Gas int
	Why error
}

// Left is all that the frame has left.
func (w Well) Left() int { return w.Gas }

// Left is nothing, unless there were too few coins for a frame to begin.
func (b Badly) Left() int {
	if errors.Is(b.Why, ledger.ErrLittle) {
		return b.Gas
	}
	return 0
}

// Fault is an error with where it was: the account that the frame ran for, the byte of the code, and the moment when the frame began, to which all goes back.
type Fault struct {
	Account, Place int
	Why            error
	began          moment
}

// Error tells it.
func (f *Fault) Error() string {
	return "account " + strconv.Itoa(f.Account) + ", byte " + strconv.Itoa(f.Place) + ": " + f.Why.Error()
}

// Unwrap is the error without where it was.
func (f *Fault) Unwrap() error { return f.Why }
