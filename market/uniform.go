package market

import "market/api"

// Uniform clears a batch at one price: what each order gets, and the price (P3 to P5).
func Uniform(orders []api.Order) ([]int, int, api.Errno) {
	if !isBatch(orders) {
		return nil, 0, api.ErrOrders
	}
	best := bestLevel(orders)
	if best.traded() == 0 {
		return make([]int, len(orders)), 0, api.OK
	}
	return best.shares(orders), best.price, api.OK
}

// isBatch tells whether the orders can stand in one batch.
func isBatch(orders []api.Order) bool {
	if len(orders) > api.MaxOrders {
		return false
	}
	for _, o := range orders {
		if o.Price < 1 || o.Price > api.MaxPrice {
			return false
		}
		if o.Qty < 1 || o.Qty > api.MaxQty {
			return false
		}
	}
	return true
}

// willing tells whether the order would trade at the price.
func willing(o api.Order, price int) bool {
	if o.Sell {
		return o.Price <= price
	}
	return o.Price >= price
}

// level is a price with the slots wanted (D) and offered (S) at it.
type level struct {
	price, demand, supply int
}

// levelAt sums up both sides of the batch at the price.
func levelAt(orders []api.Order, price int) level {
	l := level{price: price}
	for _, o := range orders {
		if !willing(o, price) {
			continue
		}
		if o.Sell {
			l.supply += o.Qty
		} else {
			l.demand += o.Qty
		}
	}
	return l
}

// bestLevel finds the level at which the batch is cleared.
func bestLevel(orders []api.Order) level {
	best := levelAt(orders, 1)
	for p := 2; p <= api.MaxPrice; p++ {
		l := levelAt(orders, p)
		// Prices rise, so where two levels are equally good the lesser price stays.
		if l.isBetter(best) {
			best = l
		}
	}
	return best
}

// isBetter tells whether the level beats the other one, whatever their prices.
func (l level) isBetter(other level) bool {
	traded := l.traded()
	otherTraded := other.traded()
	if traded != otherTraded {
		return traded > otherTraded
	}
	apart := l.apart()
	otherApart := other.apart()
	return apart < otherApart
}

// traded is the lesser of demand and supply.
func (l level) traded() int {
	if l.demand < l.supply {
		return l.demand
	}
	return l.supply
}

// apart is how far demand and supply lie from each other.
func (l level) apart() int {
	if l.demand < l.supply {
		return l.supply - l.demand
	}
	return l.demand - l.supply
}

// sideTotal is the sum of the willing orders on the order's own side.
func (l level) sideTotal(o api.Order) int {
	if o.Sell {
		return l.supply
	}
	return l.demand
}

// shares tells what each order gets at the level.
//
// Both sides go by the one rule V * q / T: on the side whose sum is V it gives
// each willing order its quantity and loses nothing, so that all slots left over,
// and all losses by which they are handed out, belong to the other side.
func (l level) shares(orders []api.Order) []int {
	gets := make([]int, len(orders))
	lost := make([]int, len(orders))
	traded := l.traded()
	left := 2 * traded
	for i, o := range orders {
		total := l.sideTotal(o)
		if total < 1 || !willing(o, l.price) {
			continue
		}
		gets[i] = traded * o.Qty / total
		lost[i] = traded * o.Qty % total
		left -= gets[i]
	}
	for i := range gets {
		if placeOf(i, lost) < left {
			gets[i]++
		}
	}
	return gets
}

// placeOf tells how many orders are served before order i when the slots left over
// are handed out: those that lost more, and those that lost as much and came earlier.
func placeOf(i int, lost []int) int {
	if i < 0 || i >= len(lost) {
		return len(lost)
	}
	place := 0
	for j, n := range lost {
		if n > lost[i] || n == lost[i] && j < i {
			place++
		}
	}
	return place
}
