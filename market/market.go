// Package market: batch auctions of container slots: see DOC.md.
package market

import "market/api"

// Market has accounts, batches and a log.
//
// With all of it 0 it is a new market.
type Market struct {
	accounts [api.Clients]account
	house    int
	voyages  [api.Voyages]voyage
	replies  [api.Clients]reply
	log      string
}

// reply is what a client's last request was answered: a repeated request is
// answered the same, and not done again.
type reply struct {
	request int
	answer  string
	errno   api.Errno
}

// New makes a market in which nothing is (P7).
func New() *Market { return &Market{} }

// Do takes a command and answers it (P8 to P15).
func (m *Market) Do(command string) (string, api.Errno) {
	r, isCommand := readRequest(command)
	if !isCommand {
		return "", api.ErrForm
	}
	last := m.replies[r.client]
	if r.number == last.request {
		return last.answer, last.errno
	}
	if r.number < last.request {
		return "", api.ErrOld
	}
	if r.number > last.request+1 {
		return "", api.ErrGap
	}
	return m.serve(r, command)
}

// serve carries out the client's next request, which the command was read as. It is the
// client's last one from now on, and stands in the log, whatever it is answered.
func (m *Market) serve(r request, command string) (string, api.Errno) {
	m.log += frame(command)
	answer, errno := m.carryOut(r)
	m.replies[r.client] = reply{request: r.number, answer: answer, errno: errno}
	return answer, errno
}

// carryOut does what the request's word says.
func (m *Market) carryOut(r request) (string, api.Errno) {
	switch r.word {
	case "pay":
		return "", m.pay(r)
	case "draw":
		return "", m.draw(r)
	case "bring":
		return "", m.bring(r)
	case "fetch":
		return "", m.fetch(r)
	case "buy":
		return m.place(r, false)
	case "sell":
		return m.place(r, true)
	case "drop":
		return "", m.drop(r)
	case "mode":
		return "", m.setMode(r)
	}
	// What is left is close.
	return m.closeBatch(r)
}

// Last tells the number of a client's last request (P9).
func (m *Market) Last(client int) int {
	if client < 0 || client >= api.Clients {
		return 0
	}
	return m.replies[client].request
}
