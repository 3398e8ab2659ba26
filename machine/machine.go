// Package machine runs codes, frame by frame.
package machine

import (
	"errors"
	"slices"

	"purser/api"
	"purser/code"
	"purser/ledger"
)

// Machine runs the frames of one order.
type Machine struct {
	ledger *ledger.Ledger
	logs   []api.Log
	back   int
	depth  int // how many frames there are, one called by the other
}

// Call is what a call is begun with.
type Call struct {
	Caller, To int
	Value      api.Word
	Gas        int
	Data       []byte
}

// Creation is what a creation is begun with.
type Creation struct {
	Creator int
	Value   api.Word
	Gas     int
	Code    string
}

// moment is how far all had come that may be undone.
type moment struct {
	ledger, logs, back int
}

// New makes a machine that works on a ledger.
func New(l *ledger.Ledger) *Machine { return &Machine{ledger: l} }

// Logs is what was told, as new memory.
func (m *Machine) Logs() []api.Log { return slices.Clone(m.logs) }

// Back is how much gas is to be given back.
func (m *Machine) Back() int { return m.back }

// Call sends the value over and runs the code of the account that is called. What ends badly is undone.
func (m *Machine) Call(c Call) End {
	if err := m.mayBegin(c.Caller, c.Value); err != nil {
		return Badly{Gas: c.Gas, Why: err}
	}
	f := m.begin(frame{self: c.To, caller: c.Caller, value: c.Value, data: c.Data, gas: c.Gas})
	f.text, f.marks = m.ledger.Code(c.To)
	m.ledger.Send(c.Caller, c.To, c.Value)
	return m.conclude(m.run(f))
}

// Create raises the creator's nonce, which stays raised, sends the value over to a new account, and runs a code for it. What that gives is the account's code. What ends badly is undone.
func (m *Machine) Create(c Creation) End {
	if err := m.mayBegin(c.Creator, c.Value); err != nil {
		return Badly{Gas: c.Gas, Why: err}
	}
	m.ledger.RaiseNonce(c.Creator)
	f := m.begin(frame{self: m.ledger.NewID(), caller: c.Creator, value: c.Value, gas: c.Gas})
	f.text, f.marks = c.Code, code.FindMarks(c.Code)
	m.ledger.Send(c.Creator, f.self, c.Value)
	return m.conclude(f.keepCode(m.run(f)))
}

// lend runs the code of an account for the one that a frame runs for. What ends badly is undone.
func (m *Machine) lend(lender int, to *frame, gas int, data []byte) End {
	if err := m.mayBegin(to.self, api.Word{}); err != nil {
		return Badly{Gas: gas, Why: err}
	}
	f := m.begin(frame{self: to.self, caller: to.caller, value: to.value, data: data, gas: gas})
	f.text, f.marks = m.ledger.Code(lender)
	return m.conclude(m.run(f))
}

// mayBegin is why no frame is begun that an account gives coins to; nil, if one is.
func (m *Machine) mayBegin(giver int, value api.Word) error {
	if m.depth == api.MaxDepth {
		return ErrDeep
	}
	return m.ledger.Afford(giver, value)
}

// begin is a frame that begins now: what is done from here on is undone if it ends badly.
func (m *Machine) begin(f frame) *frame {
	f.machine, f.began = m, m.now()
	return &f
}

func (m *Machine) run(f *frame) End {
	m.depth++
	end := f.run()
	m.depth--
	return end
}

// conclude undoes what ended badly.
func (m *Machine) conclude(end End) End {
	switch e := end.(type) {
	case Badly:
		m.undo(e.Why)
	}
	return end
}

func (m *Machine) now() moment {
	return moment{ledger: m.ledger.Now(), logs: len(m.logs), back: m.back}
}

// undo goes back to when the frame began in which the error was.
func (m *Machine) undo(err error) {
	var fault *Fault
	if !errors.As(err, &fault) {
		return
	}
	m.ledger.Undo(fault.began.ledger)
	m.logs = m.logs[:fault.began.logs]
	m.back = fault.began.back
}
