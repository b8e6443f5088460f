package market

import "market/api"

// McAfee clears a batch by trade reduction: what each order gets, what buyers pay, what sellers get (P6).
func McAfee(orders []api.Order) ([]int, int, int, api.Errno) {
	if !isBatch(orders) {
		return nil, 0, 0, api.ErrOrders
	}
	if !areSingle(orders) {
		return nil, 0, 0, api.ErrOrders
	}
	places := rowPlaces(orders)
	k := countPairs(orders, places)
	last := pairAt(orders, places, k-1)
	behind := pairAt(orders, places, k)
	price := (behind.buyer + behind.seller) / 2
	if k > 0 && price >= last.seller && price <= last.buyer {
		return firstGet(places, k), price, price, api.OK
	}
	if k > 1 {
		return firstGet(places, k-1), last.buyer, last.seller, api.OK
	}
	return make([]int, len(orders)), 0, 0, api.OK
}

// areSingle tells whether each order is for one slot.
func areSingle(orders []api.Order) bool {
	for _, o := range orders {
		if o.Qty != 1 {
			return false
		}
	}
	return true
}

// rowPlaces tells for each order how many stand ahead of it in its own side's row.
func rowPlaces(orders []api.Order) []int {
	places := make([]int, len(orders))
	for i, o := range orders {
		for j, other := range orders {
			if other.Sell != o.Sell {
				continue
			}
			if asksLess(other, o) || other.Price == o.Price && j < i {
				places[i]++
			}
		}
	}
	return places
}

// asksLess tells whether the order's price is the better one for the other side,
// where both orders are on one side.
func asksLess(o, other api.Order) bool {
	if o.Sell {
		return o.Price < other.Price
	}
	return o.Price > other.Price
}

// pair has the prices of the buyer and the seller at one place of their rows.
type pair struct {
	buyer, seller int
}

// pairAt finds the pair at the place. Who is missing has a price at which nobody trades.
func pairAt(orders []api.Order, places []int, place int) pair {
	found := pair{buyer: 0, seller: api.MaxPrice + 1}
	for i, o := range orders {
		if i >= len(places) || places[i] != place {
			continue
		}
		if o.Sell {
			found.seller = o.Price
		} else {
			found.buyer = o.Price
		}
	}
	return found
}

// countPairs tells how many pairs from the front of the rows would trade with each other.
func countPairs(orders []api.Order, places []int) int {
	for k := range orders {
		found := pairAt(orders, places, k)
		// Along the rows buyers offer less and sellers ask more, so no later pair would trade.
		if found.buyer < found.seller {
			return k
		}
	}
	return len(orders)
}

// firstGet gives one slot to each of the first n in both rows.
func firstGet(places []int, n int) []int {
	gets := make([]int, len(places))
	for i, place := range places {
		if place < n {
			gets[i] = 1
		}
	}
	return gets
}
