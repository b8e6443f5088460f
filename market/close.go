package market

import (
	"strconv"

	"market/api"
)

// trade is what a batch is cleared to.
type trade struct {
	gets     []int // for each order
	slots    int   // that change hands
	pay, get int   // for one slot: what a buyer pays, and what a seller gets
}

// closeBatch clears the voyage's batch and empties it (P14). It answers what was traded (P15).
func (m *Market) closeBatch(r request) (string, api.Errno) {
	v := &m.voyages[r.voyage]
	t, errno := v.cleared()
	// Never so: P11 lets only orders in that the mode's rule takes, and P13 no other mode
	// while they stand in the batch.
	if errno != api.OK {
		return "", errno
	}
	for i, e := range v.batch {
		if i < len(t.gets) {
			m.settle(e, r.voyage, t, t.gets[i])
		}
	}
	m.house += t.slots * (t.pay - t.get)
	v.batch = nil
	v.came = 0
	return t.show(), api.OK
}

// cleared is what the batch comes to by the rule of the voyage's mode.
func (v *voyage) cleared() (trade, api.Errno) {
	var orders []api.Order
	for _, e := range v.batch {
		orders = append(orders, e.order)
	}
	if v.mode == modeM {
		gets, pay, get, errno := McAfee(orders)
		slots := bought(orders, gets)
		return trade{gets: gets, slots: slots, pay: pay, get: get}, errno
	}
	gets, price, errno := Uniform(orders)
	slots := bought(orders, gets)
	return trade{gets: gets, slots: slots, pay: price, get: price}, errno
}

// bought is how many slots all buyers get together.
func bought(orders []api.Order, gets []int) int {
	slots := 0
	for i, o := range orders {
		if i < len(gets) && !o.Sell {
			slots += gets[i]
		}
	}
	return slots
}

// settle trades n slots for the voyage's entry, out of what was held for it; the rest is free.
func (m *Market) settle(e entry, voyage int, t trade, n int) {
	p := m.potOf(e, voyage)
	// All of it is free for a moment: it covers what is taken below, whatever else the client has.
	p.release(e.needs())
	a := &m.accounts[e.client]
	if e.order.Sell {
		a.slots[voyage].free -= n
		a.cash.free += n * t.get
	} else {
		a.cash.free -= n * t.pay
		a.slots[voyage].free += n
	}
}

// show writes what was traded, as close is answered (P15).
func (t trade) show() string {
	if t.slots == 0 {
		return "0"
	}
	text := strconv.Itoa(t.slots)
	text += "@"
	text += strconv.Itoa(t.pay)
	text += "/"
	text += strconv.Itoa(t.get)
	return text
}
