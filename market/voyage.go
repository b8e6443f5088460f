package market

import (
	"strconv"

	"market/api"
)

// mode tells how a voyage's batch is cleared.
type mode int

const (
	modeU mode = 0 // by Uniform
	modeM mode = 1 // by McAfee
)

// voyage has the orders that stand in the batch, in the order in which they came.
type voyage struct {
	mode  mode
	batch []entry
	came  int // how many came into the batch, with those that were dropped
}

// entry is an order in a batch.
type entry struct {
	number, client int
	order          api.Order
}

// needs is how much must be held for the entry: cash to buy, slots to sell.
func (e entry) needs() int {
	if e.order.Sell {
		return e.order.Qty
	}
	return e.order.Price * e.order.Qty
}

// potOf is the pot in which is held what the voyage's entry needs.
func (m *Market) potOf(e entry, voyage int) *pot {
	if e.order.Sell {
		return &m.accounts[e.client].slots[voyage]
	}
	return &m.accounts[e.client].cash
}

// place puts an order into the voyage's batch and answers its number (P11).
func (m *Market) place(r request, sell bool) (string, api.Errno) {
	v := &m.voyages[r.voyage]
	if v.mode == modeM && (r.qty != 1 || v.hasOrderOf(r.client)) {
		return "", api.ErrMode
	}
	if v.came >= api.MaxOrders {
		return "", api.ErrFull
	}
	o := api.Order{Sell: sell, Price: r.price, Qty: r.qty}
	e := entry{number: v.came, client: r.client, order: o}
	p := m.potOf(e, r.voyage)
	errno := p.hold(e.needs())
	if errno != api.OK {
		return "", errno
	}
	v.batch = append(v.batch, e)
	v.came++
	return strconv.Itoa(e.number), api.OK
}

// hasOrderOf tells whether an order of the client stands in the batch.
func (v *voyage) hasOrderOf(client int) bool {
	for _, e := range v.batch {
		if e.client == client {
			return true
		}
	}
	return false
}

// drop takes an order of the client out of the voyage's batch (P12).
func (m *Market) drop(r request) api.Errno {
	v := &m.voyages[r.voyage]
	e, found := v.find(r.client, r.order)
	if !found {
		return api.ErrOrder
	}
	p := m.potOf(e, r.voyage)
	p.release(e.needs())
	v.remove(e.number)
	return api.OK
}

// find finds the client's order with the number.
func (v *voyage) find(client, number int) (entry, bool) {
	for _, e := range v.batch {
		if e.client == client && e.number == number {
			return e, true
		}
	}
	return entry{}, false
}

// remove leaves all orders in the batch but the one with the number.
func (v *voyage) remove(number int) {
	var rest []entry
	for _, e := range v.batch {
		if e.number != number {
			rest = append(rest, e)
		}
	}
	v.batch = rest
}

// setMode changes how the voyage's batch is cleared (P13).
func (m *Market) setMode(r request) api.Errno {
	v := &m.voyages[r.voyage]
	if len(v.batch) > 0 {
		return api.ErrBusy
	}
	v.mode = r.mode
	return api.OK
}
