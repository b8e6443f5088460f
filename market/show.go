package market

import "strconv"

// Show writes accounts, house and batches (P7).
func (m *Market) Show() string {
	text := ""
	for _, a := range m.accounts {
		text += a.show()
		text += ";"
	}
	text += strconv.Itoa(m.house)
	for _, v := range m.voyages {
		text += ";"
		text += v.show()
	}
	return text
}

// show writes an account: cash, and behind it the slots of each voyage.
func (a account) show() string {
	text := a.cash.show()
	for _, p := range a.slots {
		text += " "
		text += p.show()
	}
	return text
}

// show writes a pot: what is free and what is held.
func (p pot) show() string {
	text := strconv.Itoa(p.free)
	text += "+"
	text += strconv.Itoa(p.held)
	return text
}

// show writes a voyage: its mode, and right behind it its orders.
func (v voyage) show() string {
	text := v.mode.show()
	for i, e := range v.batch {
		if i > 0 {
			text += ","
		}
		text += e.show()
	}
	return text
}

// show writes the letter of a mode.
func (d mode) show() string {
	if d == modeM {
		return "m"
	}
	return "u"
}

// show writes an order as it stands in its batch.
func (e entry) show() string {
	text := strconv.Itoa(e.number)
	if e.order.Sell {
		text += "S"
	} else {
		text += "B"
	}
	text += strconv.Itoa(e.client)
	text += "@"
	text += strconv.Itoa(e.order.Price)
	text += "x"
	text += strconv.Itoa(e.order.Qty)
	return text
}
