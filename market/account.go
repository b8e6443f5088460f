package market

import "market/api"

// account is what a client has.
type account struct {
	cash  pot
	slots [api.Voyages]pot
}

// pot is cash, or slots of one voyage: a part that is free, and a part that is held for orders.
type pot struct {
	free, held int
}

// take takes n out of what is free.
func (p *pot) take(n int) api.Errno {
	if n > p.free {
		return api.ErrFunds
	}
	p.free -= n
	return api.OK
}

// hold holds back n of what is free.
func (p *pot) hold(n int) api.Errno {
	errno := p.take(n)
	if errno != api.OK {
		return errno
	}
	p.held += n
	return api.OK
}

// release makes n of what is held free again.
func (p *pot) release(n int) {
	p.held -= n
	p.free += n
}

// pay adds to the client's free cash (P10).
func (m *Market) pay(r request) api.Errno {
	if m.allCash()+r.amount > api.MaxCash {
		return api.ErrMax
	}
	m.accounts[r.client].cash.free += r.amount
	return api.OK
}

// draw takes from the client's free cash (P10).
func (m *Market) draw(r request) api.Errno {
	return m.accounts[r.client].cash.take(r.amount)
}

// bring adds to the client's free slots of the voyage (P10).
func (m *Market) bring(r request) api.Errno {
	if m.allSlots(r.voyage)+r.amount > api.MaxSlots {
		return api.ErrMax
	}
	m.accounts[r.client].slots[r.voyage].free += r.amount
	return api.OK
}

// fetch takes from the client's free slots of the voyage (P10).
func (m *Market) fetch(r request) api.Errno {
	return m.accounts[r.client].slots[r.voyage].take(r.amount)
}

// allCash is the cash of all accounts and of the house.
func (m *Market) allCash() int {
	sum := m.house
	for _, a := range m.accounts {
		sum += a.cash.free + a.cash.held
	}
	return sum
}

// allSlots is the slots of the voyage in all accounts.
func (m *Market) allSlots(voyage int) int {
	sum := 0
	for _, a := range m.accounts {
		sum += a.slots[voyage].free + a.slots[voyage].held
	}
	return sum
}
