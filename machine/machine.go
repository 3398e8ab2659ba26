// Package machine runs codes, frame by frame.
package machine

import (
	"errors"
	"slices"

	"purser/api"
	"purser/ledger"
)

// Machine runs the frames of one order.
type Machine struct {
	ledger *ledger.Ledger
	logs   []api.Log
	back   int
}

// Call is what a call is begun with.
type Call struct {
	Caller, To int
	Value      api.Word
	Gas        int
	Data       string
}

// moment is how far all had come that may be undone.
type moment struct {
	ledger, logs, back int
}

// New makes a machine that works on a ledger.
func New(l *ledger.Ledger) *Machine { return &Machine{ledger: l} }

// Logs is what was told, as new memory.
func (m *Machine) Logs() []api.Log { return slices.Clone(m.logs) }

// Back is how much gas is to be given back.
func (m *Machine) Back() int { return m.back }

// Call sends the value over and runs the code of the account that is called. What ends badly is undone.
func (m *Machine) Call(c Call) End {
	began := m.now()
	if err := m.ledger.Send(c.Caller, c.To, c.Value); err != nil {
		return Badly{Gas: c.Gas, Why: err}
	}
	end := m.begin(c, began).run()
	switch e := end.(type) {
	case Badly:
		m.undo(e.Why)
	}
	return end
}

func (m *Machine) begin(c Call, began moment) *frame {
	text, marks := m.ledger.Code(c.To)
	return &frame{
		machine: m,
		began:   began,
		text:    text,
		marks:   marks,
		self:    c.To,
		caller:  c.Caller,
		value:   c.Value,
		data:    c.Data,
		gas:     c.Gas,
	}
}

func (m *Machine) now() moment {
	return moment{ledger: m.ledger.Now(), logs: len(m.logs), back: m.back}
}

// undo goes back to when the frame began in which the error was.
func (m *Machine) undo(err error) {
	var fault *Fault
	if !errors.As(err, &fault) {
		return
	}
	m.ledger.Undo(fault.began.ledger)
	m.logs = m.logs[:fault.began.logs]
	m.back = fault.began.back
}
