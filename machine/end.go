package machine

import (
	"errors"
	"strconv"

	"purser/ledger"
)

// Why a frame ends badly.
var (
	ErrNoInstruction = errors.New("no instruction")
	ErrFewWords      = errors.New("too few words")
	ErrManyWords     = errors.New("too many words")
	ErrNoGas         = errors.New("not gas enough")
	ErrNoMark        = errors.New("no mark")
	ErrLongCode      = errors.New("too long a code")
)

// ErrDeep is why no frame is begun: there are as many as there may be. (Too few coins are the other reason.)
var ErrDeep = errors.New("too deep")

// End is how a call or a creation ended: Well, Made or Badly.
type End interface {
	// Left is the gas that comes back to the one who called.
	Left() int
}

// Well is the end of a frame that is done, with the gas that it has left and what it gives.
type Well struct {
	Gas int
	Out string
}

// Made is the end of a creation that went well, with the gas that is left and the account that was created.
type Made struct {
	Gas, ID int
}

// Badly is the end of a frame that went wrong, or of what no frame was begun for, with the gas that there was and why.
type Badly struct {
	Gas int
	Why error
}

// Left is all that the frame has left.
func (w Well) Left() int { return w.Gas }

// Left is all that is left behind the payment for the code.
func (m Made) Left() int { return m.Gas }

// Left is nothing, unless no frame was begun.
func (b Badly) Left() int {
	if errors.Is(b.Why, ErrDeep) || errors.Is(b.Why, ledger.ErrLittle) {
		return b.Gas
	}
	return 0
}

// Fault is an error with where it was: the account that the frame ran for, the byte of the code, and the moment when the frame began, to which all goes back.
type Fault struct {
	Account, Place int
	Why            error
	began          moment
}

// Error tells it.
func (f *Fault) Error() string {
	return "account " + strconv.Itoa(f.Account) + ", byte " + strconv.Itoa(f.Place) + ": " + f.Why.Error()
}

// Unwrap is the error without where it was.
func (f *Fault) Unwrap() error { return f.Why }
